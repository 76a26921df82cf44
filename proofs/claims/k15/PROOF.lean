import PyProof.Rows.All
import Wide.All
import OpenK.AllK
import Wide.FinOn
import HandS.ForMost
import HandS.Exc
import HandS.ExcOwn
import HandS.WordsExc
import HandS.ExcIs
import HandS.Evl
import HandS.IsInst
import HandS.Wide
import HandS.Zip
import PySem.Challenge.RW_susu_k15_transfers_as_told
set_option Elab.async false
set_option linter.all false
set_option maxRecDepth 100000

namespace Su
open PySem PySem.Spec PyProof.Rows L2 Evl
/-! ### small rules over HandS.Evl -/
theorem CMul.l {i j : Int} (h1 : -(2 ^ 64) < i) (h2 : i < 2 ^ 64) : CMul i j := .inl ⟨h1, h2⟩
theorem CMul.r {i j : Int} (h1 : -(2 ^ 64) < j) (h2 : j < 2 ^ 64) : CMul i j := .inr ⟨h1, h2⟩
theorem rv_mod {H : Hp} {i j : Int} (h : 0 < j) : RV (rI (fun _ j => 0 < j) fun i j => .int (i % j)) (.int i) (.int j) H (.int (i % j)) := rv_I h
theorem rv_div {H : Hp} {i j : Int} (h : 0 < j) (h2 : j < 1073741824) : RV (rI CDiv fun i j => .int (i / j)) (.int i) (.int j) H (.int (i / j)) := rv_I ⟨h, h2⟩
theorem rv_mul {H : Hp} {i j : Int} (h : CMul i j) : RV (rI CMul fun i j => .int (i * j)) (.int i) (.int j) H (.int (i * j)) := rv_I h
theorem rv_pow {H : Hp} {i j : Int} (h : CPow i j) : RV (rI CPow fun i j => .int (i ^ j.toNat)) (.int i) (.int j) H (.int (i ^ j.toNat)) := rv_I h
theorem rv_p18 {H : Hp} : RV (rI CPow fun i j => .int (i ^ j.toNat)) (.int 10) (.int 18) H (.int (10 ^ 18)) := rv_I (C := CPow) (g := fun i j => .int (i ^ j.toNat)) ⟨by decide, by decide, by decide⟩
theorem rv_p12 {H : Hp} : RV (rI CPow fun i j => .int (i ^ j.toNat)) (.int 10) (.int 12) H (.int (10 ^ 12)) := rv_I (C := CPow) (g := fun i j => .int (i ^ j.toNat)) ⟨by decide, by decide, by decide⟩
theorem rv_p20 {H : Hp} : RV (rI CPow fun i j => .int (i ^ j.toNat)) (.int 10) (.int 20) H (.int (10 ^ 20)) := rv_I (C := CPow) (g := fun i j => .int (i ^ j.toNat)) ⟨by decide, by decide, by decide⟩
theorem rv_divW {H : Hp} {i j : Int} (h : CDivW i j) : RV (rI CDivW fun i j => .int (i / j)) (.int i) (.int j) H (.int (i / j)) := rv_I h
theorem rv_mulW {H : Hp} {i j : Int} (h : CMulW i j) : RV (rI CMulW fun i j => .int (i * j)) (.int i) (.int j) H (.int (i * j)) := rv_I h
theorem rc_abs {H : Hp} {i : Int} : RC (fun xs H Q => ∃ i, xs = [V.int i] ∧ Q (.int (if i < 0 then -i else i)) H) [.int i] H (.int (if i < 0 then -i else i)) := fun H1 _ _ q => ⟨i, rfl, q H1 (Ex.refl H1)⟩
theorem rc_max {H : Hp} {i j : Int} : RC (fun xs H Q => ∃ i j, xs = [V.int i, .int j] ∧ Q (.int (if j > i then j else i)) H) [.int i, .int j] H (.int (if j > i then j else i)) := fun H1 _ _ q => ⟨i, j, rfl, q H1 (Ex.refl H1)⟩
theorem rc_min {H : Hp} {i j : Int} : RC (fun xs H Q => ∃ i j, xs = [V.int i, .int j] ∧ Q (.int (if j < i then j else i)) H) [.int i, .int j] H (.int (if j < i then j else i)) := fun H1 _ _ q => ⟨i, j, rfl, q H1 (Ex.refl H1)⟩
theorem rc_len {K : PySem.W.Frag} {H : Hp} {p : Addr} {ys : List V} (h : SqL K H p ys ∨ SqT K H p ys) : RC (fun xs H Q => ∃ p ys, xs = [V.ref p] ∧ (SqL K H p ys ∨ SqT K H p ys) ∧ Q (.int ys.length) H) [.ref p] H (.int ys.length) :=
  fun H1 e _ q => ⟨p, ys, rfl, h.elim (fun h => .inl (ex_l e h)) (fun h => .inr (ex_t e h)), q H1 (Ex.refl H1)⟩
theorem rc_isi_int {K : PySem.W.Frag} {H : Hp} {i : Int} {n : String} {b : Bool} (h : kitB "int" n = some b) : RC (rIsi K) [.int i, .ty n] H (.bl b) :=
  fun H1 _ _ q => ⟨.int i, .ty n, .type "int", .type n, b, rfl, .ty n, .base (.int i), kit_ty h, q H1 (Ex.refl H1)⟩
theorem ex_g {H H' : Hp} {a : Addr} {o : HO} (e : Ex H H') (h : H a = some o) : H' a = some o := e a o h
theorem at_rows {rows : List Int} {z : Int} (h0 : 0 ≤ z) (h : z < rows.length) : atI (rows.map V.int) z = some (.int (rows.getD z.toNat 0)) := by
  have hz : z = ((z.toNat : Nat) : Int) := by omega
  have hl : z.toNat < rows.length := by omega
  refine at_of hz ?_
  rw [List.getElem?_map, List.getElem?_eq_getElem hl, List.getD_eq_getElem?_getD, List.getElem?_eq_getElem hl]
  rfl
theorem at4 {a b c d z : Int} (h0 : 0 ≤ z) (h : z < 4) : atI [V.int a, .int b, .int c, .int d] z = some (.int (if z = 0 then a else if z = 1 then b else if z = 2 then c else d)) := by
  have h4 : z = 0 ∨ z = 1 ∨ z = 2 ∨ z = 3 := by omega
  rcases h4 with rfl | rfl | rfl | rfl <;> rfl
theorem wm {i j : Int} (h1 : i.natAbs < 2 ^ 240) (h2 : j.natAbs < 2 ^ 240) : CMulW i j := wide_mul h1 h2 (by decide) (by decide) (by decide)
theorem wd {i j : Int} (h : 0 < j) (h2 : j.natAbs < 2 ^ 240) : CDivW i j := wide_div h h2 (by decide) (by decide)
theorem n400 {i : Int} {n : Int} (h1 : -n ≤ i) (h2 : i ≤ n) (h : n.toNat < 2 ^ 240) : i.natAbs < 2 ^ 240 := by omega
theorem n400' {i : Int} (h1 : -(10 ^ 70) ≤ i) (h2 : i ≤ 10 ^ 70) : i.natAbs < 2 ^ 240 := n400 h1 h2 (by decide)
theorem decT {p : Prop} [Decidable p] (h : p) {b : Bool} (e : decide p = b) : b = true := by rw [← e]; exact decide_eq_true h
abbrev vErr : List Value := [.type "ValueError", .type "Exception", .type "BaseException", .type "object"]
theorem ex_up {H : Hp} {p : Addr} {o' : HO} {H0 : Hp} (e : Ex H0 H) (hp : H0 p = none) : Ex H0 (upd H p o') := Ex.mut e hp
theorem seq_ne {K : PySem.W.Frag} {H H' : Hp} {a : Addr} {xs : List V} (e : Ex H H') (h : SqL K H a xs) : SqL K H' a xs := ex_l e h
/-- a def's call that hands back a new list of which something is known -/
def SpN (sp : Sp) (vs : List V) (H : Hp) (P : List V → Prop) : Prop := ∀ H1, Ex H H1 → ∀ Q : VK, (∀ xs p H2, P xs → H1 p = none → Ex H1 H2 → H2 p = some (.lst xs) → Q (.ref p) H2) → ∀ E : XK, sp vs H1 Q E
theorem q_callN {sp : Sp} {dvs vs : List V} {E : XK} {ta : TA} {σ : L2.St} {H : Hp} {i : Nat} {D : Ends} {tz : TS} {P : List V → Prop} (h : EvA ta σ H vs) (hs : SpN sp (vs ++ dvs) H P)
    (k : ∀ xs p H1, P xs → H p = none → Ex H H1 → H1 p = some (.lst xs) → tz D (σ.set i (some (.ref p))) H1) : tSeq (tAsg (tCall sp dvs E ta) (gName i)) tz D σ H :=
  h H (Ex.refl H) _ fun H1 e1 => hs H1 e1 _ (fun xs p H2 hP hp e2 h2 => k xs p H2 hP (fresh_back e1 hp) (e1.trans e2) h2) E
theorem s_callN {sp : Sp} {dvs vs : List V} {E : XK} {ta : TA} {σ : L2.St} {H : Hp} {i : Nat} {D : Ends} {P : List V → Prop} (h : EvA ta σ H vs) (hs : SpN sp (vs ++ dvs) H P)
    (k : ∀ xs p H1, P xs → H p = none → Ex H H1 → H1 p = some (.lst xs) → D.nx (σ.set i (some (.ref p))) H1) : tAsg (tCall sp dvs E ta) (gName i) D σ H :=
  h H (Ex.refl H) _ fun H1 e1 => hs H1 e1 _ (fun xs p H2 hP hp e2 h2 => k xs p H2 hP (fresh_back e1 hp) (e1.trans e2) h2) E
/-- .. whose first argument is a new list -/
theorem s_callN1 {sp : Sp} {dvs vs xs0 : List V} {E : XK} {te : TE} {tr : TA} {σ : L2.St} {H : Hp} {i : Nat} {D : Ends} {P : List V → Prop} (h1 : EvL te σ H xs0) (h2 : EvA tr σ H vs) (hs : ∀ p0 H1, Ex H H1 → H1 p0 = some (.lst xs0) → SpN sp (.ref p0 :: vs ++ dvs) H1 P)
    (k : ∀ xs p H1, P xs → H p = none → Ex H H1 → H1 p = some (.lst xs) → D.nx (σ.set i (some (.ref p))) H1) : tAsg (tCall sp dvs E (tCons te tr)) (gName i) D σ H :=
  h1 H (Ex.refl H) _ fun p0 H1 _ e1 hp0 => h2 H1 e1 _ fun H2 e2 => hs p0 H2 (e1.trans e2) (e2 _ _ hp0) H2 (Ex.refl H2) _ (fun xs p H3 hP hp e3 h3 => k xs p H3 hP (fresh_back (e1.trans e2) hp) ((e1.trans e2).trans e3) h3) E
theorem ev_callL {sp : Sp} {dvs vs xs0 : List V} {E : XK} {te : TE} {tr : TA} {σ : L2.St} {H : Hp} {z : V} (h1 : EvL te σ H xs0) (h2 : EvA tr σ H vs) (hs : ∀ p0 H1, Ex H H1 → H1 p0 = some (.lst xs0) → SpV sp (.ref p0 :: vs ++ dvs) H1 z) : Ev (tCall sp dvs E (tCons te tr)) σ H z := fun H0 e0 Q q =>
  h1 H0 e0 _ fun p0 H1 _ e1 hp0 => h2 H1 (e0.trans e1) _ fun H2 e2 => hs p0 H2 ((e0.trans e1).trans e2) (e2 _ _ hp0) H2 (Ex.refl H2) _ (fun H3 e3 => q H3 ((e1.trans e2).trans e3)) E
theorem cut_from (xs : List V) (k : Nat) : cutV xs (some (k : Int)) none = xs.drop k := by
  unfold cutV
  rw [HT.sIx_nat, HT.sIx_none]
  by_cases h : k ≤ xs.length
  · rw [Nat.min_eq_left h, List.take_of_length_le (by rw [List.length_drop]; omega)]
  · rw [Nat.min_eq_right (by omega), Nat.sub_self, List.take_zero, List.drop_of_length_le (by omega)]
theorem s_asgSub {l : Addr} {xs : List V} {z : Int} {j : Nat} {te ta tb : TE} {σ : L2.St} {H : Hp} {v : V} {D : Ends} (hl : H l = some (.lst xs)) (h : Ev te σ H v) (ho : Ev ta σ H (.ref l)) (hi : Ev tb σ H (.int z)) (hz : z = (j : Int)) (hj : j < xs.length)
    (k : ∀ H1, Ex H H1 → D.nx σ (upd H1 l (.lst (xs.set j v)))) : tAsg te (gSub ta tb rSetL) D σ H := s_setL hl h ho (hz ▸ hi) hj k
end Su
open PySem PySem.Spec PyProof.Rows L2 Evl Su
/-! ### small tactics: "ev" an expression, "et" a test, "ea" arguments, "rv" an operator, "rc" a built-in, "hc" a bound -/
local macro_rules | `(tactic| walk_at "hc") => `(tactic| first | assumption | omega | (exact Su.CMul.l (by omega) (by omega)) | (exact Su.CMul.r (by omega) (by omega)) | (exact Su.wm (Su.n400' (by omega) (by omega)) (Su.n400' (by omega) (by omega))) | (exact Su.wd (by omega) (Su.n400' (by omega) (by omega))) | decide)
local macro_rules | `(tactic| walk_at "rv") => `(tactic| first
  | (with_reducible exact rv_I0)
  | (with_reducible exact rv_eq rfl)
  | (with_reducible exact rv_ne rfl)
  | (with_reducible refine Su.rv_mod ?_; walk_at "hc")
  | (with_reducible refine Su.rv_div ?_ ?_ <;> walk_at "hc")
  | (with_reducible refine Su.rv_mul ?_; walk_at "hc")
  | exact Su.rv_p18
  | exact Su.rv_p12
  | exact Su.rv_p20
  | (with_reducible refine Su.rv_divW ?_; walk_at "hc")
  | (with_reducible refine Su.rv_mulW ?_; walk_at "hc")
  | (apply rv_ixL; (first | assumption | (exact sq_of (by assumption))); (first | (apply Su.at_rows <;> walk_at "hc") | rfl | assumption)))
local macro_rules | `(tactic| walk_at "rc") => `(tactic| first
  | exact Su.rc_abs
  | exact Su.rc_max
  | exact Su.rc_min
  | exact Su.rc_isi_int (b := true) (by decide +kernel)
  | exact Su.rc_isi_int (b := false) (by decide +kernel))
local macro_rules | `(tactic| walk_at "ea") => `(tactic| first
  | exact ea_nil
  | (apply ea_cons; (walk_at "ev"); (walk_at "ea")))
local macro_rules | `(tactic| walk_at "ev") => `(tactic| first
  | exact ev_c
  | exact ev_var rfl
  | (apply ev_op; (walk_at "ev"); (walk_at "ev"); (walk_at "rv"))
  | (apply ev_un; (walk_at "ev"); (exact ru_neg))
  | (apply ev_andV; (walk_at "ev"); (intro _; walk_at "ev"))
  | (apply ev_orV; (walk_at "ev"); (intro _; walk_at "ev"))
  | (apply ev_notV; (walk_at "ev"))
  | (apply ev_len; (walk_at "ev"); first | assumption | (exact sq_of (by assumption)))
  | (apply ev_cb; (walk_at "ea"); (walk_at "rc")))
local macro_rules | `(tactic| walk_at "et") => `(tactic| first
  | (apply et_and; (walk_at "et"); (intro _; walk_at "et"))
  | (apply et_or; (walk_at "et"); (intro _; walk_at "et"))
  | (apply et_not; (walk_at "et"))
  | (apply et_test; (walk_at "ev"))
  | (apply et_B; (walk_at "ev")))

open PySem PySem.Spec PyProof.Rows L2 Evl Su
namespace Su
def topS (i : Nat) : Stmt := PySem.Challenge.pw_susu_k15_transfers_as_told.main.body.getD i (.Pass ⟨0, 0, 0, 0⟩)
abbrev s_transfers : Stmt := topS 4
abbrev N_transfers : List Str := ["nets", "name", "net", "left", "getters", "served", "told", "payer", "getter", "coins", "at"]
theorem sc_transfers : FnScope N_transfers ["nets"] (defScope s_transfers) := ⟨rfl, rfl, rfl, by decide +kernel, rfl, by decide +kernel, by decide +kernel⟩
abbrev s__law_draws : Stmt := topS 6
abbrev N__law_draws : List Str := ["_law_script", "_law_many", "_law_rows", "_law_mix", "_law_cell", "_law_rest"]
theorem sc__law_draws : FnScope N__law_draws ["_law_script", "_law_many"] (defScope s__law_draws) := ⟨rfl, rfl, rfl, by decide +kernel, rfl, by decide +kernel, by decide +kernel⟩
abbrev s__law_same : Stmt := topS 7
abbrev N__law_same : List Str := ["_law_told", "_law_due", "_law_one", "_law_other"]
theorem sc__law_same : FnScope N__law_same ["_law_told", "_law_due"] (defScope s__law_same) := ⟨rfl, rfl, rfl, by decide +kernel, rfl, by decide +kernel, by decide +kernel⟩
abbrev s__law_names : Stmt := topS 8
abbrev N__law_names : List Str := ["_law_some", "_law_many", "_law_letters", "_law_rows", "_law_at", "_law_raw", "_law_size", "_law_turn", "_law_word", "_law_place", "_law_step", "_law_sign", "_law_k"]
theorem sc__law_names : FnScope N__law_names ["_law_some", "_law_many"] (defScope s__law_names) := ⟨rfl, rfl, rfl, by decide +kernel, rfl, by decide +kernel, by decide +kernel⟩
abbrev s__law_paid : Stmt := topS 9
abbrev N__law_paid : List Str := ["_law_nets", "_law_left", "_law_rows", "_law_step", "_law_lacks", "_law_gets", "_law_coins", "_law_name", "_law_net", "_law_at"]
theorem sc__law_paid : FnScope N__law_paid ["_law_nets"] (defScope s__law_paid) := ⟨rfl, rfl, rfl, by decide +kernel, rfl, by decide +kernel, by decide +kernel⟩
abbrev s_law : Stmt := topS 10
abbrev N_law : List Str := ["_law_script", "_law_some", "_law_size", "_law_people", "_law_nets", "_law_total", "_law_at", "_law_name", "_law_net", "_law_handed", "_law_again", "_law_told"]
theorem sc_law : FnScope N_law ["_law_script"] (defScope s_law) := ⟨rfl, rfl, rfl, by decide +kernel, rfl, by decide +kernel, by decide +kernel⟩
structure Top (K : PySem.W.Frag) (mg : Str → Option Value) where
  f_transfers : Addr
  fd_transfers : FuncData
  F_transfers : Fun K "transfers" "transfers" s_transfers f_transfers fd_transfers
  b_transfers : Binds K fd_transfers ["nets"] []
  m_transfers : mg "transfers" = some (.ref f_transfers)
  f__law_draws : Addr
  fd__law_draws : FuncData
  F__law_draws : Fun K "_law_draws" "_law_draws" s__law_draws f__law_draws fd__law_draws
  b__law_draws : Binds K fd__law_draws ["_law_script", "_law_many"] []
  m__law_draws : mg "_law_draws" = some (.ref f__law_draws)
  f__law_same : Addr
  fd__law_same : FuncData
  F__law_same : Fun K "_law_same" "_law_same" s__law_same f__law_same fd__law_same
  b__law_same : Binds K fd__law_same ["_law_told", "_law_due"] []
  m__law_same : mg "_law_same" = some (.ref f__law_same)
  f__law_names : Addr
  fd__law_names : FuncData
  F__law_names : Fun K "_law_names" "_law_names" s__law_names f__law_names fd__law_names
  b__law_names : Binds K fd__law_names ["_law_some", "_law_many"] []
  m__law_names : mg "_law_names" = some (.ref f__law_names)
  f__law_paid : Addr
  fd__law_paid : FuncData
  F__law_paid : Fun K "_law_paid" "_law_paid" s__law_paid f__law_paid fd__law_paid
  b__law_paid : Binds K fd__law_paid ["_law_nets"] []
  m__law_paid : mg "_law_paid" = some (.ref f__law_paid)
  f_law : Addr
  fd_law : FuncData
  F_law : Fun K "law" "law" s_law f_law fd_law
  b_law : Binds K fd_law ["_law_script"] []
  m_law : mg "law" = some (.ref f_law)
  m_abs : mg "abs" = none
  m_all : mg "all" = none
  m_bool : mg "bool" = none
  m_enumerate : mg "enumerate" = none
  m_int : mg "int" = none
  m_isinstance : mg "isinstance" = none
  m_len : mg "len" = none
  m_list : mg "list" = none
  m_min : mg "min" = none
  m_range : mg "range" = none
  m_str : mg "str" = none
  m_sum : mg "sum" = none
  m_tuple : mg "tuple" = none
  m_zip : mg "zip" = none
  f_SusuError : Addr
  m_SusuError : mg "SusuError" = some (.ref f_SusuError)
  f_Uneven : Addr
  m_Uneven : mg "Uneven" = some (.ref f_Uneven)
  x_Uneven : PySem.W.excIn K f_Uneven vErr "ValueError.__new__" = true
  kp_Uneven : PySem.W.keepIn K (.ref f_Uneven) = true
  e_Uneven : ExcC K f_Uneven
  sb_Uneven : PySem.W.subIn K (.ref f_Uneven) (.type "BaseException") = some true
  ty_Uneven : PySem.W.typeIn K (.ref f_Uneven) = some (.type "type")
end Su
namespace Su
/-! ### rules whose written part is named, for blocks -/
section
variable {X : Cx} {K : PySem.W.Frag}
theorem ix_listK (h : X.K = K := by rfl) : IxR X (rIxL K) := h ▸ ix_list
theorem ix_tupK (h : X.K = K := by rfl) : IxR X (rIxT K) := h ▸ ix_tup
theorem call_len_seqK (h : X.K = K := by rfl) : CallR X (.builtin "len") (fun xs H Q => ∃ p ys, xs = [.ref p] ∧ (SqL K H p ys ∨ SqT K H p ys) ∧ Q (.int ys.length) H) := h ▸ call_len_seq
theorem op_in_seqK (h : X.K = K := by rfl) : OpR X (compareOp .In) (rIn K false) := h ▸ op_in_seq
theorem op_notIn_seqK (h : X.K = K := by rfl) : OpR X (compareOp .NotIn) (rIn K true) := h ▸ op_notIn_seq
theorem call_list_ofK (h : X.K = K := by rfl) : CallR X (.type "list") (fun xs H Q => ∃ p ys, xs = [.ref p] ∧ (SqL K H p ys ∨ SqT K H p ys) ∧ ∀ l, H l = none → Q (.ref l) (upd H l (.lst ys))) := h ▸ call_list_of
theorem call_isiK' (h : X.K = K := by rfl) : CallR X (.builtin "isinstance") (rIsi K) := h ▸ call_isi
end

end Su
namespace Su
/-! ### the drawn numbers -/
def Rows (m : Nat) (rows : List Int) : Prop := m ≤ rows.length ∧ rows.length ≤ m + 63 ∧ ∀ x ∈ rows, -(10 ^ 18) < x ∧ x < 10 ^ 18
theorem Rows.add {rows : List Int} {x : Int} (h : ∀ x ∈ rows, -(10 ^ 18) < x ∧ x < 10 ^ 18) (h1 : -(10 ^ 18) < x) (h2 : x < 10 ^ 18) : ∀ y ∈ rows ++ [x], -(10 ^ 18) < y ∧ y < 10 ^ 18 := fun y hy => by
  rcases List.mem_append.mp hy with h' | h'
  · exact h y h'
  · obtain rfl := List.mem_singleton.mp h'
    exact ⟨h1, h2⟩
theorem Rows.get {m : Nat} {rows : List Int} (h : Rows m rows) (i : Nat) : -(10 ^ 18) < rows.getD i 0 ∧ rows.getD i 0 < 10 ^ 18 := by
  by_cases hi : i < rows.length
  · rw [List.getD_eq_getElem?_getD, List.getElem?_eq_getElem hi]
    exact h.2.2 _ (List.getElem_mem hi)
  · rw [List.getD_eq_getElem?_getD, List.getElem?_eq_none (by omega)]
    decide
section
variable {P : Program} {w : World} {K : PySem.W.Frag} {mg : Str → Option Value} {base : Heap}
def spDraws (K : PySem.W.Frag) : Sp := fun vs H Q _ => ∃ (a : Addr) (ns : List Int) (m : Nat), vs = [.ref a, .int (m : Int)] ∧ SqL K H a (ns.map V.int) ∧ ns.length ≤ 63 ∧ m ≤ 1000 ∧
  ∀ rows H' p, H p = none → Ex H H' → H' p = some (.lst (rows.map V.int)) → Rows m rows → Q (.ref p) H'
theorem spN_draws {K : PySem.W.Frag} {a : Addr} {ns : List Int} {m : Nat} {H : Hp} (hS : SqL K H a (ns.map V.int)) (hl : ns.length ≤ 63) (hm : m ≤ 1000) : SpN (spDraws K) [.ref a, .int (m : Int)] H (fun xs => ∃ rows : List Int, Rows m rows ∧ xs = rows.map V.int) :=
  fun H1 e Q q E => ⟨a, ns, m, rfl, ex_l e hS, hl, hm, fun rows H' p hp e' h' hr => q _ p H' ⟨rows, hr, rfl⟩ hp e' h'⟩
def DrI (H0 : Hp) (a p : Addr) (m i : Nat) (σ : L2.St) (H : Hp) : Prop := ∃ (rows : List Int) (mix : Int) (y4 y5 : Option V), σ = [some (.ref a), some (.int (m : Int)), some (.ref p), some (.int mix), y4, y5] ∧ Ex H0 H ∧ H p = some (.lst (rows.map V.int)) ∧
  rows.length ≤ m + i ∧ 0 ≤ mix ∧ mix < 2147483647 ∧ ∀ x ∈ rows, -(10 ^ 18) < x ∧ x < 10 ^ 18
theorem ok__law_draws {f : Addr} {fd : FuncData} {k : Nat} (F : Fun K "_law_draws" "_law_draws" s__law_draws f fd) (T : Top K mg) : FnOk P w K mg base CX0 (k + 1) f fd ["_law_script", "_law_many"] (spDraws K) := by
  have nd := sc__law_draws.nd
  refine F.ok sc__law_draws (fun vs H Q E h => ?_) (fun cdv A outer s H vs Q E hr h => ?_)
  · obtain ⟨a, ns, m, rfl, _⟩ := h
    rfl
  · obtain ⟨a, ns, m, rfl, hS, hlen, hm, q⟩ := h
    refine ⟨_, (pss_cons (ps_set (i := 2) nd rfl (.inl rfl) (pe_lst pa_nil))
      (pss_cons (ps_set (i := 3) nd rfl (.inl rfl) pe_int)
      (pss_cons (ps_for PassesOwn.never rfl (pi_list (pv 0)) (pg_name (i := 4) nd rfl (.inl rfl))
        (pss_cons (ps_set (i := 3) nd rfl (.inl rfl) (pe_op op_mod (pe_op op_add (pe_op op_mul (pv 3) pe_int) (pv 4)) pe_int))
          (pss_cons (ps_set (i := 5) nd rfl (.inl rfl) (pe_callB call_abs (by rfl) T.m_abs (by decide +kernel) (pa_cons (pv 4) pa_nil)))
          (pss_cons (ps_if (pt_cmpR op_lt (pv 5) (pe_op op_pow pe_int pe_int) (nomark _))
            (pss_cons (ps_expr (pe_bm PySem.F.plainAttrs_list PySem.F.slot_list_append PySem.F.type_list_append mt_append (pv 2) (pa_cons (pv 4) pa_nil)))
              (pss_one (ps_set (i := 5) nd rfl (.inl rfl) pe_int)))
            pss_nil)
          (pss_one (ps_while PassesOwn.never (PW.pt (pw_and (pt_cmpR op_gt (pv 5) pe_int (nomark _)) (pw_and1 (pt_cmpR op_lt (pe_callB call_len_seq (by rfl) T.m_len PySem.boot_len (pa_cons (pv 2) pa_nil)) (pv 1) (nomark _)))))
            (pss_cons (ps_expr (pe_bm PySem.F.plainAttrs_list PySem.F.slot_list_append PySem.F.type_list_append mt_append (pv 2) (pa_cons (pe_op op_mod (pv 5) pe_int) pa_nil)))
              (pss_one (ps_set (i := 5) nd rfl (.inl rfl) (pe_op op_fdiv (pv 5) pe_int))))))))))
      (pss_cons (ps_while PassesOwn.never (pt_cmpR op_lt (pe_callB call_len_seq (by rfl) T.m_len PySem.boot_len (pa_cons (pv 2) pa_nil)) (pv 1) (nomark _))
        (pss_cons (ps_set (i := 3) nd rfl (.inl rfl) (pe_op op_mod (pe_op op_add (pe_op op_mul (pv 3) pe_int) pe_int) pe_int))
          (pss_one (ps_expr (pe_bm PySem.F.plainAttrs_list PySem.F.slot_list_append PySem.F.type_list_append mt_append (pv 2) (pa_cons (pe_op op_mod (pe_op op_mul (pv 3) (pv 3)) pe_int) pa_nil))))))
      (pss_one (ps_ret (pv 2))))))), ?_⟩
    -- rows = []; mix = 1
    refine q_asgL (el_lst ea_nil (by decide)) fun p H1 hp e1 h1 => ?_
    have hS1 := ex_l e1 hS
    refine q_asg (by walk_at "ev") fun H2 e2 => ?_
    refine q_forL (by walk_at "ev") (ex_l e2 hS1) (DrI H a p m) ?_ ?_ ?_ ?_
    · intro H3 e3
      exact ⟨[], 1, none, none, rfl, (e1.trans e2).trans e3, e3 p _ (e2 p _ h1), Nat.zero_le _, by omega, by omega, fun x hx => by cases hx⟩
    · rintro i σ' H' _ ⟨rows, mix, y4, y5, rfl, ex, _⟩
      exact ex_l ex hS
    · rintro i x σ' H' hx ⟨rows, mix, y4, y5, rfl, ex, hr', hrl, m0, m1, hb⟩
      obtain ⟨c, rfl⟩ : ∃ c : Int, x = .int c := by
        rw [List.getElem?_map] at hx
        cases hc : ns[i]? with
        | none => rw [hc] at hx; cases hx
        | some c => rw [hc] at hx; exact ⟨c, (Option.some.inj hx).symm⟩
      have hi : i < 63 := by
        have := (List.getElem?_eq_some_iff.mp hx).1
        rw [List.length_map] at this
        omega
      refine q_asg (by walk_at "ev") fun H3 e3 => ?_
      have m0' := Int.emod_nonneg (mix * 31 + c) (show (2147483647 : Int) ≠ 0 by decide)
      have m1' := Int.emod_lt_of_pos (mix * 31 + c) (show (0 : Int) < 2147483647 by decide)
      generalize (mix * 31 + c) % 2147483647 = mix' at m0' m1' ⊢
      refine q_asg (by walk_at "ev") fun H4 e4 => ?_
      have hr4 := ex_g e4 (ex_g e3 hr')
      have ex4 := (ex.trans e3).trans e4
      have r0 : 0 ≤ (if c < 0 then -c else c) := by split <;> omega
      have rc : (if c < 0 then -c else c) < 10 ^ 18 → -(10 ^ 18) < c ∧ c < 10 ^ 18 := by split <;> omega
      generalize (if c < 0 then -c else c) = rest at r0 rc ⊢
      -- what stands behind the if: the while
      have hwh : ∀ (rows' : List Int) (rest' : Int) (y4' : Option V) (H5 : Hp), Ex H H5 → H5 p = some (.lst (rows'.map V.int)) → rows'.length ≤ m + (i + 1) → 0 ≤ rest' → (0 < rest' → rows'.length ≤ m + i) → (∀ x ∈ rows', -(10 ^ 18) < x ∧ x < 10 ^ 18) →
          ∀ (tc : TT) (tb : TS) (D : Ends), True → True := fun _ _ _ _ _ _ _ _ _ _ _ _ _ _ => trivial
      clear hwh
      refine q_when (by walk_at "et") (fun hb' H5 e5 => ?_) (fun hb' H5 e5 => ?_)
      · have hlt : rest < 10 ^ 18 := of_decide_eq_true hb'
        obtain ⟨c1, c2⟩ := rc hlt
        refine q_app (ex_g e5 hr4) (by walk_at "ev") (by walk_at "ev") (by rw [List.length_map]; omega) fun H6 e6 => ?_
        refine s_asg (by walk_at "ev") fun H7 e7 => ?_
        have hp7 : H7 p = some (.lst ((rows ++ [c]).map V.int)) := e7 p _ (by rw [upd_same, List.map_append]; rfl)
        have ex7 : Ex H H7 := (ex_up ((ex4.trans e5).trans e6) hp).trans e7
        refine s_while (fun n σ2 H2 => n = 0 ∧ σ2 = [some (.ref a), some (.int (m : Int)), some (.ref p), some (.int mix'), some (.int c), some (.int 0)] ∧ Ex H H2 ∧ H2 p = some (.lst ((rows ++ [c]).map V.int))) 0 ⟨rfl, rfl, ex7, hp7⟩ ?_
        rintro n σ2 H2 ⟨rfl, rfl, ex2, hp2⟩
        refine ⟨_, by walk_at "et", fun hb2 => ?_, fun hb2 H8 e8 => ?_⟩
        · simp at hb2
        · exact ⟨rows ++ [c], mix', _, _, rfl, ex2.trans e8, e8 p _ hp2, by rw [List.length_append]; show rows.length + 1 ≤ _; omega, m0', m1', Rows.add hb c1 c2⟩
      · refine s_while (fun n σ2 H2 => ∃ (rows' : List Int) (rest' : Int), σ2 = [some (.ref a), some (.int (m : Int)), some (.ref p), some (.int mix'), some (.int c), some (.int rest')] ∧ n = rest'.toNat ∧ Ex H H2 ∧ H2 p = some (.lst (rows'.map V.int)) ∧ rows'.length ≤ m + i ∧ 0 ≤ rest' ∧ ∀ x ∈ rows', -(10 ^ 18) < x ∧ x < 10 ^ 18) rest.toNat
          ⟨rows, rest, rfl, rfl, ex4.trans e5, ex_g e5 hr4, hrl, r0, hb⟩ ?_
        rintro n σ2 H2 ⟨rows', rest', rfl, rfl, ex2, hp2, hrl', r0', hb'⟩
        refine ⟨_, by walk_at "et", fun hb2 H8 e8 => ?_, fun hb2 H8 e8 => ?_⟩
        · have hb3 := Bool.and_eq_true_iff.mp hb2
          have hpos : 0 < rest' := of_decide_eq_true hb3.1
          have hlm : ((rows'.map V.int).length : Int) < m := of_decide_eq_true hb3.2
          rw [List.length_map] at hlm
          refine ⟨fun σ3 H3 => ∃ n', n' < rest'.toNat ∧ ∃ (rows' : List Int) (rest' : Int), σ3 = [some (.ref a), some (.int (m : Int)), some (.ref p), some (.int mix'), some (.int c), some (.int rest')] ∧ n' = rest'.toNat ∧ Ex H H3 ∧ H3 p = some (.lst (rows'.map V.int)) ∧ rows'.length ≤ m + i ∧ 0 ≤ rest' ∧ ∀ x ∈ rows', -(10 ^ 18) < x ∧ x < 10 ^ 18, fun _ _ h => h, ?_⟩
          refine q_app (ex_g e8 hp2) (by walk_at "ev") (by walk_at "ev") (by rw [List.length_map]; omega) fun H9 e9 => ?_
          refine s_asg (by walk_at "ev") fun H10 e10 => ?_
          have d0 := Int.emod_nonneg rest' (show (1000003 : Int) ≠ 0 by decide)
          have d1 := Int.emod_lt_of_pos rest' (show (0 : Int) < 1000003 by decide)
          refine ⟨(rest' / 1000003).toNat, by omega, rows' ++ [rest' % 1000003], rest' / 1000003, rfl, rfl, (ex_up ((ex2.trans e8).trans e9) hp).trans e10, e10 p _ (by rw [upd_same, List.map_append]; rfl), ?_, by omega, Rows.add hb' (by omega) (by omega)⟩
          rw [List.length_append]
          show rows'.length + 1 ≤ _
          omega
        · exact ⟨rows', mix', _, _, rfl, ex2.trans e8, e8 p _ hp2, by omega, m0', m1', hb'⟩
    · rintro σ' H' ⟨rows, mix, y4, y5, rfl, ex, hr', hrl, m0, m1, hb⟩
      rw [List.length_map] at hrl
      refine q_while (fun n σ2 H2 => ∃ (rows : List Int) (mix : Int), σ2 = [some (.ref a), some (.int (m : Int)), some (.ref p), some (.int mix), y4, y5] ∧ n = m - rows.length ∧ Ex H H2 ∧ H2 p = some (.lst (rows.map V.int)) ∧ rows.length ≤ m + 63 ∧ 0 ≤ mix ∧ mix < 2147483647 ∧ ∀ x ∈ rows, -(10 ^ 18) < x ∧ x < 10 ^ 18)
        (m - rows.length) ⟨rows, mix, rfl, rfl, ex, hr', by omega, m0, m1, hb⟩ ?_
      rintro n σ2 H2 ⟨rows, mix, rfl, rfl, ex, hr', hrl, m0, m1, hb⟩
      refine ⟨_, by walk_at "et", fun hb2 H8 e8 => ?_, fun hb2 H8 e8 => ?_⟩
      · have hlm : ((rows.map V.int).length : Int) < m := of_decide_eq_true hb2
        rw [List.length_map] at hlm
        refine ⟨fun σ3 H3 => ∃ n', n' < m - rows.length ∧ ∃ (rows : List Int) (mix : Int), σ3 = [some (.ref a), some (.int (m : Int)), some (.ref p), some (.int mix), y4, y5] ∧ n' = m - rows.length ∧ Ex H H3 ∧ H3 p = some (.lst (rows.map V.int)) ∧ rows.length ≤ m + 63 ∧ 0 ≤ mix ∧ mix < 2147483647 ∧ ∀ x ∈ rows, -(10 ^ 18) < x ∧ x < 10 ^ 18, fun _ _ h => h, ?_⟩
        refine q_asg (by walk_at "ev") fun H9 e9 => ?_
        have m0' := Int.emod_nonneg (mix * 48271 + 11) (show (2147483647 : Int) ≠ 0 by decide)
        have m1' := Int.emod_lt_of_pos (mix * 48271 + 11) (show (0 : Int) < 2147483647 by decide)
        generalize (mix * 48271 + 11) % 2147483647 = mix' at m0' m1' ⊢
        refine s_app (ex_g e9 (ex_g e8 hr')) (by walk_at "ev") (by walk_at "ev") (by rw [List.length_map]; omega) fun H10 e10 => ?_
        have d0 := Int.emod_nonneg (mix' * mix') (show (999983 : Int) ≠ 0 by decide)
        have d1 := Int.emod_lt_of_pos (mix' * mix') (show (0 : Int) < 999983 by decide)
        refine ⟨m - (rows.length + 1), by omega, rows ++ [mix' * mix' % 999983], mix', rfl, by rw [List.length_append]; rfl, ex_up (((ex.trans e8).trans e9).trans e10) hp, by rw [upd_same, List.map_append]; rfl, ?_, m0', m1', Rows.add hb (by omega) (by omega)⟩
        rw [List.length_append]
        show rows.length + 1 ≤ _
        omega
      · refine s_ret (by walk_at "ev") fun H9 e9 => ?_
        have hlm : ¬ ((rows.map V.int).length : Int) < m := of_decide_eq_false hb2
        rw [List.length_map] at hlm
        exact q rows H9 p hp ((ex.trans e8).trans e9) (e9 p _ (e8 p _ hr')) ⟨by omega, hrl, hb⟩
end

end Su
namespace Su
/-! ### comprehensions over enumerate and zip -/
def dropAt (H : Hp) (D : Addr) : Hp := fun b => if b = D then none else H b
theorem drop_ex {H : Hp} {D : Addr} : Ex (dropAt H D) H := fun a o e => by
  unfold dropAt at e
  split at e
  · cases e
  · exact e
theorem drop_self {H : Hp} {D : Addr} : dropAt H D D = none := by unfold dropAt; rw [if_pos rfl]
theorem drop_of {H : Hp} {D T : Addr} {o : HO} (e : H T = some o) (n : T ≠ D) : dropAt H D T = some o := by unfold dropAt; rw [if_neg n]; exact e
theorem ex_drop {H H1 : Hp} {D : Addr} (e : Ex H1 H) (n : H1 D = none) : Ex H1 (dropAt H D) := fun a o h => drop_of (e a o h) fun z => by rw [z, n] at h; cases h
theorem cw_turn2 {H H' Hb : Hp} {t : TT} {te : TE} {f : Nat → Bool} {v : Nat → V} {Dl : Addr} {i : Nat} {σ2 : L2.St} (p : Cw H f v Dl i H') (hi : i < 50000) (hb : Ex Hb H') (ht : EvT t σ2 Hb (f i)) (he : f i = true → Ev te σ2 Hb (v i)) :
    t σ2 H' fun b H3 => if b = true then te σ2 H3 fun y H4 => ∃ acc, H4 Dl = some (.lst acc) ∧ acc.length < sizeLine ∧ Cw H f v Dl (i + 1) (upd H4 Dl (.lst (acc ++ [y]))) else Cw H f v Dl (i + 1) H3 := by
  obtain ⟨p1, p2, p3⟩ := p
  refine ht H' hb _ fun H3 e3 => ?_
  cases hf : f i with
  | true =>
    show te σ2 H3 fun y H4 => ∃ acc, H4 Dl = some (.lst acc) ∧ acc.length < sizeLine ∧ Cw H f v Dl (i + 1) (upd H4 Dl (.lst (acc ++ [y])))
    refine he hf H3 (hb.trans e3) _ fun H4 e4 => ⟨given i f v, e4 Dl _ (e3 Dl _ p3), sz_lt (by have := given_len i f v; omega), p1, Ex.mut ((p2.trans e3).trans e4) p1, ?_⟩
    rw [given_yes hf]
    exact upd_same
  | false =>
    show Cw H f v Dl (i + 1) H3
    refine ⟨p1, p2.trans e3, ?_⟩
    rw [given_no hf]
    exact e3 Dl _ p3
theorem cw_ex {H H1 H2 : Hp} {f : Nat → Bool} {v : Nat → V} {Dl : Addr} {i : Nat} (p : Cw H f v Dl i H1) (e : Ex H1 H2) : Cw H f v Dl i H2 := ⟨p.1, p.2.1.trans e, e Dl _ p.2.2⟩
/-- what a target does with a value: from the slots s to s2 -/
def Tgt (g : TG) (x : V) (σ σ2 : L2.St) (H : Hp) : Prop := ∀ H2, Ex H H2 → ∀ Q : L2.St → Hp → Prop, Q σ2 H2 → g x σ H2 Q
theorem tg_name {i : Nat} {x : V} {σ : L2.St} {H : Hp} : Tgt (gName i) x σ (σ.set i (some x)) H := fun _ _ _ q => q
theorem tg_two {K : PySem.W.Frag} {g1 g2 : TG} {T : Addr} {x y : V} {σ σ1 σ2 : L2.St} {H : Hp} (h : SqT K H T [x, y]) (h1 : Tgt g1 x σ σ1 H) (h2 : Tgt g2 y σ1 σ2 H) : Tgt (gTup K 2 (gCons g1 (gCons g2 gNil))) (.ref T) σ σ2 H := fun H2 e Q q =>
  ⟨T, [x, y], rfl, ex_t e h, rfl, x, [y], rfl, h1 H2 e _ ⟨y, [], rfl, h2 H2 e _ ⟨rfl, q⟩⟩⟩
theorem tg_three {K : PySem.W.Frag} {g1 g2 g3 : TG} {T : Addr} {x y z : V} {σ σ1 σ2 σ3 : L2.St} {H : Hp} (h : SqT K H T [x, y, z]) (h1 : Tgt g1 x σ σ1 H) (h2 : Tgt g2 y σ1 σ2 H) (h3 : Tgt g3 z σ2 σ3 H) : Tgt (gTup K 3 (gCons g1 (gCons g2 (gCons g3 gNil)))) (.ref T) σ σ3 H := fun H2 e Q q =>
  ⟨T, [x, y, z], rfl, ex_t e h, rfl, x, [y, z], rfl, h1 H2 e _ ⟨y, [z], rfl, h2 H2 e _ ⟨z, [], rfl, h3 H2 e _ ⟨rfl, q⟩⟩⟩⟩
section
variable {K : PySem.W.Frag} {σ : L2.St} {H : Hp} {t : TT} {te : TE} {g : TG} {vs : List Nat} {a b : Addr} {xs ys : List V} {ta : TA}
theorem et_yes {σ : L2.St} {H : Hp} : EvT tYes σ H true := fun H1 _ _ q => q H1 (Ex.refl H1)
theorem el_lcLg {tl : TE} (f : Nat → Bool) (v : Nat → V) (h : Ev tl σ H (.ref a)) (hx : SqL K H a xs) (hz : xs.length ≤ 40000)
    (hs : ∀ (i : Nat) (x : V) Hb, Ex H Hb → xs[i]? = some x → ∃ σ2, Tgt g x (wipe σ vs) σ2 Hb ∧ wipe σ2 vs = wipe σ vs ∧ EvT t σ2 Hb (f i) ∧ (f i = true → Ev te σ2 Hb (v i))) :
    EvL (tLc (iList K tl) g t te vs) σ H (given xs.length f v) := fun H0 e Q q => h H0 e _ fun H1 e1 => ⟨a, rfl, ⟨xs, ex_l (e.trans e1) hx⟩, fun Dl hD =>
  lc_list (xs := xs) (Cw H1 f v Dl) ⟨hD, Ex.new hD, upd_same⟩ (fun i H' _ p => ex_l ((e.trans e1).trans p.2.1) hx) (fun i x H' hi p => by
    obtain ⟨σ2, h1, h2, h3, h4⟩ := hs i x H1 (e.trans e1) hi
    exact h1 H' p.2.1 _ ⟨h2, cw_turn2 p (by have := (List.getElem?_eq_some_iff.mp hi).1; omega) p.2.1 h3 h4⟩)
    (fun H' p => q Dl H' (fresh_back e1 p.1) (e1.trans p.2.1) p.2.2)⟩
theorem el_lcE (f : Nat → Bool) (v : Nat → V) (h : EvA ta σ H [.ref a]) (hx : SqL K H a xs) (hz : xs.length ≤ 40000)
    (hs : ∀ (i : Nat) (x : V) T Hb, Ex H Hb → xs[i]? = some x → Hb T = some (.tup [.int (i : Nat), x]) → ∃ σ2, Tgt g (.ref T) (wipe σ vs) σ2 Hb ∧ wipe σ2 vs = wipe σ vs ∧ EvT t σ2 Hb (f i) ∧ (f i = true → Ev te σ2 Hb (v i))) :
    EvL (tLc (iEnum K ta) g t te vs) σ H (given xs.length f v) := fun H0 e Q q => h H0 e _ fun H1 e1 => ⟨a, xs, rfl, ex_l (e.trans e1) hx, fun Dl hD => by
  refine ⟨fun i m H' => m = xs.length - i ∧ i ≤ xs.length ∧ Cw H1 f v Dl i H', ⟨xs.length, by simp, Nat.zero_le _, hD, Ex.new hD, upd_same⟩, ?_⟩
  rintro i m H' ⟨rfl, hi, p⟩
  have hX := ex_l ((e.trans e1).trans p.2.1) hx
  by_cases hlt : i < xs.length
  · refine .inr ⟨⟨xs, xs[i], hX, List.getElem?_eq_getElem hlt⟩, Cw H1 f v Dl (i + 1), fun H2 p' => ⟨xs.length - (i + 1), by omega, rfl, hlt, p'⟩, fun y H2 hy => ?_⟩
    obtain ⟨T, x, rfl, nT, rfl, hxx⟩ := hy
    have gi := hxx xs hX
    have eT : Ex H' (upd H' T (.tup [.int (i : Nat), x])) := Ex.new nT
    have hTD : T ≠ Dl := fun z => by rw [z, p.2.2] at nT; cases nT
    have p2 := cw_ex p eT
    obtain ⟨σ2, h1, h2, h3, h4⟩ := hs i x T (dropAt (upd H' T (.tup [.int (i : Nat), x])) Dl) (ex_drop (((e.trans e1).trans p.2.1).trans eT) (fresh_back (e.trans e1) p.1)) gi (drop_of upd_same hTD)
    exact h1 _ drop_ex _ ⟨h2, cw_turn2 p2 (by omega) drop_ex h3 h4⟩
  · have ei : i = xs.length := by omega
    subst ei
    exact .inl ⟨⟨xs, hX, Nat.le_refl _⟩, q Dl H' (fresh_back e1 p.1) (e1.trans p.2.1) p.2.2⟩⟩
theorem el_lcZ (f : Nat → Bool) (v : Nat → V) (h : EvA ta σ H [.ref a, .ref b]) (hx : SqL K H a xs) (hy : SqL K H b ys) (hl : xs.length = ys.length) (hz : xs.length ≤ 40000)
    (hs : ∀ (i : Nat) (x y : V) T Hb, Ex H Hb → xs[i]? = some x → ys[i]? = some y → Hb T = some (.tup [x, y]) → ∃ σ2, Tgt g (.ref T) (wipe σ vs) σ2 Hb ∧ wipe σ2 vs = wipe σ vs ∧ EvT t σ2 Hb (f i) ∧ (f i = true → Ev te σ2 Hb (v i))) :
    EvL (tLc (RZ.iZipA K ta) g t te vs) σ H (given xs.length f v) := fun H0 e Q q => h H0 e _ fun H1 e1 => ⟨a, b, xs, ys, rfl, .inl ⟨ex_l (e.trans e1) hx, ex_l (e.trans e1) hy, fun Dl hD => by
  refine ⟨fun i m H' => m = xs.length - i ∧ i ≤ xs.length ∧ Cw H1 f v Dl i H', ⟨xs.length, by simp, Nat.zero_le _, hD, Ex.new hD, upd_same⟩, ?_⟩
  rintro i m H' ⟨rfl, hi, p⟩
  have hX := ex_l ((e.trans e1).trans p.2.1) hx
  have hY := ex_l ((e.trans e1).trans p.2.1) hy
  by_cases hlt : i < xs.length
  · have hlt2 : i < ys.length := by omega
    refine .inr ⟨⟨xs, ys, xs[i], ys[i], hX, hY, List.getElem?_eq_getElem hlt, List.getElem?_eq_getElem hlt2⟩, Cw H1 f v Dl (i + 1), fun H2 p' => ⟨xs.length - (i + 1), by omega, rfl, hlt, p'⟩, fun z H2 hzz => ?_⟩
    obtain ⟨T, x, y, rfl, nT, rfl, hxx, hyy⟩ := hzz
    have eT : Ex H' (upd H' T (.tup [x, y])) := Ex.new nT
    have hTD : T ≠ Dl := fun z => by rw [z, p.2.2] at nT; cases nT
    have p2 := cw_ex p eT
    obtain ⟨σ2, h1, h2, h3, h4⟩ := hs i x y T (dropAt (upd H' T (.tup [x, y])) Dl) (ex_drop (((e.trans e1).trans p.2.1).trans eT) (fresh_back (e.trans e1) p.1)) (hxx xs hX) (hyy ys hY) (drop_of upd_same hTD)
    exact h1 _ drop_ex _ ⟨h2, cw_turn2 p2 (by omega) drop_ex h3 h4⟩
  · have ei : i = xs.length := by omega
    subst ei
    exact .inl ⟨⟨xs, ys, hX, hY, .inl (Nat.le_refl _)⟩, q Dl H' (fresh_back e1 p.1) (e1.trans p.2.1) p.2.2⟩⟩⟩
theorem el_lcZT (f : Nat → Bool) (v : Nat → V) (h : EvA ta σ H [.ref a, .ref b]) (hx : SqT K H a xs) (hy : SqT K H b ys) (hl : xs.length = ys.length) (hz : xs.length ≤ 40000)
    (hs : ∀ (i : Nat) (x y : V) T Hb, Ex H Hb → xs[i]? = some x → ys[i]? = some y → Hb T = some (.tup [x, y]) → ∃ σ2, Tgt g (.ref T) (wipe σ vs) σ2 Hb ∧ wipe σ2 vs = wipe σ vs ∧ EvT t σ2 Hb (f i) ∧ (f i = true → Ev te σ2 Hb (v i))) :
    EvL (tLc (RZ.iZipA K ta) g t te vs) σ H (given xs.length f v) := fun H0 e Q q => h H0 e _ fun H1 e1 => ⟨a, b, xs, ys, rfl, .inr ⟨ex_t (e.trans e1) hx, ex_t (e.trans e1) hy, fun Dl hD => by
  refine ⟨fun i m H' => m = xs.length - i ∧ i ≤ xs.length ∧ Cw H1 f v Dl i H', ⟨xs.length, by simp, Nat.zero_le _, hD, Ex.new hD, upd_same⟩, ?_⟩
  rintro i m H' ⟨rfl, hi, p⟩
  have hX := ex_t ((e.trans e1).trans p.2.1) hx
  have hY := ex_t ((e.trans e1).trans p.2.1) hy
  by_cases hlt : i < xs.length
  · have hlt2 : i < ys.length := by omega
    refine .inr ⟨⟨xs, ys, xs[i], ys[i], hX, hY, List.getElem?_eq_getElem hlt, List.getElem?_eq_getElem hlt2⟩, Cw H1 f v Dl (i + 1), fun H2 p' => ⟨xs.length - (i + 1), by omega, rfl, hlt, p'⟩, fun z H2 hzz => ?_⟩
    obtain ⟨T, x, y, rfl, nT, rfl, hxx, hyy⟩ := hzz
    have eT : Ex H' (upd H' T (.tup [x, y])) := Ex.new nT
    have hTD : T ≠ Dl := fun z => by rw [z, p.2.2] at nT; cases nT
    have p2 := cw_ex p eT
    obtain ⟨σ2, h1, h2, h3, h4⟩ := hs i x y T (dropAt (upd H' T (.tup [x, y])) Dl) (ex_drop (((e.trans e1).trans p.2.1).trans eT) (fresh_back (e.trans e1) p.1)) (hxx xs hX) (hyy ys hY) (drop_of upd_same hTD)
    exact h1 _ drop_ex _ ⟨h2, cw_turn2 p2 (by omega) drop_ex h3 h4⟩
  · have ei : i = xs.length := by omega
    subst ei
    exact .inl ⟨⟨xs, ys, hX, hY, .inl (Nat.le_refl _)⟩, q Dl H' (fresh_back e1 p.1) (e1.trans p.2.1) p.2.2⟩⟩⟩
end

end Su
namespace Su
/-! ### data as a whole: _law_same of two alike -/
mutual
theorem dp_ex {K : PySem.W.Frag} {H H' : Hp} (e : Ex H H') : ∀ {x : V} {d : PyData}, Dp K H x d → Dp K H' x d
  | _, _, .non => .non
  | _, _, .bl b => .bl b
  | _, _, .int i => .int i
  | _, _, .str x => .str x
  | _, _, .lst h1 h2 => .lst (ex_l e h1) (dpa_ex e h2)
  | _, _, .tup h1 h2 => .tup (ex_t e h1) (dpa_ex e h2)
theorem dpa_ex {K : PySem.W.Frag} {H H' : Hp} (e : Ex H H') : ∀ {xs : List V} {ds : List PyData}, DpAll K H xs ds → DpAll K H' xs ds
  | _, _, .nil => .nil
  | _, _, .cons h1 h2 => .cons (dp_ex e h1) (dpa_ex e h2)
end
theorem dpa_len {K : PySem.W.Frag} {H : Hp} : ∀ {xs : List V} {ds : List PyData}, DpAll K H xs ds → xs.length = ds.length
  | _, _, .nil => rfl
  | _, _, .cons _ h2 => by rw [List.length_cons, List.length_cons, dpa_len h2]
theorem dpa_get {K : PySem.W.Frag} {H : Hp} : ∀ {xs : List V} {ds : List PyData} {i : Nat} {x : V}, DpAll K H xs ds → xs[i]? = some x → ∃ d, ds[i]? = some d ∧ Dp K H x d
  | _, _, _, _, .nil, e => by simp at e
  | _, _, 0, _, .cons h _, e => by simp at e; subst e; exact ⟨_, rfl, h⟩
  | _, _, i + 1, x, .cons _ h2, e => by
    obtain ⟨d, h1, h3⟩ := dpa_get (i := i) (x := x) h2 (by simpa using e)
    exact ⟨d, by simpa using h1, h3⟩
theorem dpa_of {K : PySem.W.Frag} {H : Hp} {α : Type} (f : α → V) (g : α → PyData) : ∀ l : List α, (∀ a ∈ l, Dp K H (f a) (g a)) → DpAll K H (l.map f) (l.map g)
  | [], _ => .nil
  | a :: r, h => .cons (h a List.mem_cons_self) (dpa_of f g r fun b hb => h b (List.mem_cons_of_mem _ hb))
def tyN : PyData → String
  | .none => "NoneType" | .bool _ => "bool" | .int _ => "int" | .str _ => "str" | .list _ => "list" | .tuple _ => "tuple" | .dict _ => "dict"
theorem ty_dp {K : PySem.W.Frag} {H : Hp} {x : V} {d : PyData} (h : Dp K H x d) : TyX K H x (.type (tyN d)) := by
  cases h with
  | non => exact .base .non
  | bl b => exact .base (.bl b)
  | int i => exact .base (.int i)
  | str s => exact .base (.str s)
  | lst h1 _ =>
    rcases h1 with (h1 | ⟨o, h1⟩) | ⟨o, its, n, h1, h2, _⟩
    · exact .base (.lst h1)
    · exact .base (.frz h1)
    · exact .kList h1 h2
  | tup h1 _ =>
    rcases h1 with (h1 | ⟨o, h1⟩) | ⟨o, its, n, h1, h2, _⟩
    · exact .base (.tup h1)
    · exact .fTuple h1
    · exact .kTuple h1 h2
theorem rc_isi_dp {K : PySem.W.Frag} {H : Hp} {x : V} {d : PyData} {n : String} {b : Bool} (h : Dp K H x d) (hk : kitB (tyN d) n = some b) : RC (rIsi K) [x, .ty n] H (.bl b) :=
  fun H1 e _ q => ⟨x, .ty n, .type (tyN d), .type n, b, rfl, .ty n, ty_dp (dp_ex e h), kit_ty hk, q H1 (Ex.refl H1)⟩
theorem kit_tab {t m : String} (ht : t = "NoneType" ∨ t = "bool" ∨ t = "int" ∨ t = "str" ∨ t = "list" ∨ t = "tuple") (hm : m = "bool" ∨ m = "int" ∨ m = "list" ∨ m = "tuple" ∨ m = "str") : ∃ b, kitB t m = some b := by
  rcases ht with rfl | rfl | rfl | rfl | rfl | rfl <;> rcases hm with rfl | rfl | rfl | rfl | rfl <;> first | exact ⟨true, by decide +kernel⟩ | exact ⟨false, by decide +kernel⟩
/-- data of ints, texts, None, bools, lists and tuples, n deep -/
inductive PlD : Nat → PyData → Prop
  | non {n : Nat} : PlD n .none
  | bool {n : Nat} (b : Bool) : PlD n (.bool b)
  | int {n : Nat} (i : Int) : PlD n (.int i)
  | str {n : Nat} (x : Str) : PlD n (.str x)
  | list {n : Nat} {xs : List PyData} : xs.length ≤ 1000 → (∀ x ∈ xs, PlD n x) → PlD (n + 1) (.list xs)
  | tuple {n : Nat} {xs : List PyData} : xs.length ≤ 1000 → (∀ x ∈ xs, PlD n x) → PlD (n + 1) (.tuple xs)
theorem PlD.ty {n : Nat} {d : PyData} (h : PlD n d) : tyN d = "NoneType" ∨ tyN d = "bool" ∨ tyN d = "int" ∨ tyN d = "str" ∨ tyN d = "list" ∨ tyN d = "tuple" := by
  cases h <;> simp [tyN]
theorem given_all {n : Nat} {v : V} : given n (fun _ => true) (fun _ => v) = List.replicate n v := by
  induction n with
  | zero => rfl
  | succ n ih => rw [given_yes rfl, ih, List.replicate_succ']
theorem all_rep (n : Nat) : (List.replicate n true).all id = true := by
  induction n with
  | zero => rfl
  | succ n ih => rw [List.replicate_succ, List.all_cons, ih]; rfl
section
variable {P : Program} {w : World} {K : PySem.W.Frag} {mg : Str → Option Value} {base : Heap}
theorem ev_isi {σ : L2.St} {H : Hp} {ta tb : TE} {x : V} {d : PyData} {n : String} {b : Bool} (ha : Ev ta σ H x) (hb : Ev tb σ H (.ty n)) (h : Dp K H x d) (hk : kitB (tyN d) n = some b) : Ev (tCB (rIsi K) (tCons ta (tCons tb tNil))) σ H (.bl b) := ev_cb (ea_cons ha (ea_cons hb ea_nil)) (rc_isi_dp h hk)
theorem ev_allT {σ : L2.St} {H : Hp} {te : TE} {n : Nat} (h : EvL te σ H (List.replicate n (V.bl true))) : Ev (tCB (rAll K) (tCons te tNil)) σ H (.bl true) := fun H1 e Q q =>
  h H1 e _ fun p H2 _ e2 h2 => ⟨p, List.replicate n true, rfl, sq_of (by rw [List.map_replicate]; exact h2), by rw [all_rep]; exact q H2 e2⟩
theorem rv_sc {H : Hp} {x : V} (h : scal x x = true) : RV rEq x x H (.bl true) := fun H1 e Q q => ⟨h, by rw [decide_eq_true rfl]; exact q H1 (Ex.refl H1)⟩
theorem rv_neb {H : Hp} {b : Bool} : RV rNe (.bl b) (.bl b) H (.bl false) := fun H1 e Q q => ⟨by cases b <;> rfl, by rw [decide_eq_true rfl]; exact q H1 (Ex.refl H1)⟩
end

end Su
namespace Su
section
variable {P : Program} {w : World} {K : PySem.W.Frag} {mg : Str → Option Value} {base : Heap}
def spSame (K : PySem.W.Frag) (n : Nat) : Sp := fun vs H Q _ => ∃ (x y : V) (d : PyData), vs = [x, y] ∧ PlD n d ∧ Dp K H x d ∧ Dp K H y d ∧ ∀ H', Ex H H' → Q (.bl true) H'
def spPrev (K : PySem.W.Frag) : Nat → Sp
  | 0 => fun _ _ _ _ => False
  | n + 1 => spSame K n
theorem spV_same {n : Nat} {x y : V} {d : PyData} {H : Hp} (hp : PlD n d) (h1 : Dp K H x d) (h2 : Dp K H y d) : SpV (spSame K n) [x, y] H (.bl true) := fun H1 e Q q _ => ⟨x, y, d, rfl, hp, dp_ex e h1, dp_ex e h2, q⟩
end
section
variable {P : Program} {w : World} {K : PySem.W.Frag} {mg : Str → Option Value} {base : Heap}
theorem ok__law_same (T : Top K mg) : ∀ n : Nat, FnOk P w K mg base CX0 (n + 1) T.f__law_same T.fd__law_same ["_law_told", "_law_due"] (spSame K n) := fun n => by
  have G__law_same : FnOk P w K mg base CX0 n T.f__law_same T.fd__law_same ["_law_told", "_law_due"] (spPrev K n) := by
    cases n with
    | zero => exact ⟨fun _ _ _ _ h => h.elim, fun _ _ _ _ _ _ _ _ _ _ _ _ _ h => h.elim⟩
    | succ n => exact ok__law_same T n
  have nd := sc__law_same.nd
  refine T.F__law_same.ok sc__law_same (fun vs H Q E h => ?_) (fun cdv A outer s H vs Q E hr h => ?_)
  · obtain ⟨x, y, d, rfl, _⟩ := h
    rfl
  · obtain ⟨x, y, d, rfl, hp, hx, hy, q⟩ := h
    refine ⟨_, (pss_cons (ps_if (PW.pt (pw_or (pt_cmpR op_ne (pe_callB call_isi (by rfl) T.m_isinstance (by decide +kernel) (pa_cons (pv 0) (pa_cons (pe_bltn (v := .ty "bool") (by rfl) T.m_bool (by decide +kernel) rfl) pa_nil))) (pe_callB call_isi (by rfl) T.m_isinstance (by decide +kernel) (pa_cons (pv 1) (pa_cons (pe_bltn (v := .ty "bool") (by rfl) T.m_bool (by decide +kernel) rfl) pa_nil))) (nomark _)) (pw_or1 (pt_cmpR op_ne (pe_callB call_isi (by rfl) T.m_isinstance (by decide +kernel) (pa_cons (pv 0) (pa_cons (pe_bltn (v := .ty "int") (by rfl) T.m_int (by decide +kernel) rfl) pa_nil))) (pe_callB call_isi (by rfl) T.m_isinstance (by decide +kernel) (pa_cons (pv 1) (pa_cons (pe_bltn (v := .ty "int") (by rfl) T.m_int (by decide +kernel) rfl) pa_nil))) (nomark _)))))
        (pss_one (ps_ret pe_bl))
        pss_nil)
      (pss_cons (ps_if (PW.pt (pw_or (pt_cmpR op_ne (pe_callB call_isi (by rfl) T.m_isinstance (by decide +kernel) (pa_cons (pv 0) (pa_cons (pe_bltn (v := .ty "list") (by rfl) T.m_list (by decide +kernel) rfl) pa_nil))) (pe_callB call_isi (by rfl) T.m_isinstance (by decide +kernel) (pa_cons (pv 1) (pa_cons (pe_bltn (v := .ty "list") (by rfl) T.m_list (by decide +kernel) rfl) pa_nil))) (nomark _)) (pw_or1 (pt_cmpR op_ne (pe_callB call_isi (by rfl) T.m_isinstance (by decide +kernel) (pa_cons (pv 0) (pa_cons (pe_bltn (v := .ty "tuple") (by rfl) T.m_tuple (by decide +kernel) rfl) pa_nil))) (pe_callB call_isi (by rfl) T.m_isinstance (by decide +kernel) (pa_cons (pv 1) (pa_cons (pe_bltn (v := .ty "tuple") (by rfl) T.m_tuple (by decide +kernel) rfl) pa_nil))) (nomark _)))))
        (pss_one (ps_ret pe_bl))
        pss_nil)
      (pss_cons (ps_if (PW.pt (pw_and (pt_not (pt_val (pe_callB call_isi (by rfl) T.m_isinstance (by decide +kernel) (pa_cons (pv 1) (pa_cons (pe_bltn (v := .ty "list") (by rfl) T.m_list (by decide +kernel) rfl) pa_nil))))) (pw_and1 (pt_not (pt_val (pe_callB call_isi (by rfl) T.m_isinstance (by decide +kernel) (pa_cons (pv 1) (pa_cons (pe_bltn (v := .ty "tuple") (by rfl) T.m_tuple (by decide +kernel) rfl) pa_nil))))))))
        (pss_one (ps_ret (pe_and (pe_cmpR op_eq (pe_callB call_isi (by rfl) T.m_isinstance (by decide +kernel) (pa_cons (pv 0) (pa_cons (pe_bltn (v := .ty "str") (by rfl) T.m_str (by decide +kernel) rfl) pa_nil))) (pe_callB call_isi (by rfl) T.m_isinstance (by decide +kernel) (pa_cons (pv 1) (pa_cons (pe_bltn (v := .ty "str") (by rfl) T.m_str (by decide +kernel) rfl) pa_nil))) (nomark _)) (pe_one (pe_cmpR op_eq (pv 0) (pv 1) (nomark _))))))
        pss_nil)
      (pss_one (ps_ret (pe_and (pe_cmpR op_eq (pe_callB call_len_seq (by rfl) T.m_len PySem.boot_len (pa_cons (pv 0) pa_nil)) (pe_callB call_len_seq (by rfl) T.m_len PySem.boot_len (pa_cons (pv 1) pa_nil)) (nomark _)) (pe_one (pe_callB (cr_all rfl) (by rfl) T.m_all (by decide +kernel) (pa_cons (pe_lc (own := [("_law_one", 2), ("_law_other", 3)]) (g := gTup K 2 (gCons (gName 2) (gCons (gName 3) gNil))) (tt := tYes) rfl nd (RZ.pi_zipA (by rfl) T.m_zip (pa_cons (pv 0) (pa_cons (pv 1) pa_nil))) (blkOk_by (own := [("_law_one", 2), ("_law_other", 3)]) (N := Su.N__law_same) (sc := defScope s__law_same) (by decide +kernel)) (fun _ _ _ _ _ => (pg_tup rfl (pgs_cons (pg_name (i := 2) nd rfl (.inl rfl)) (pgs_cons (pg_name (i := 3) nd rfl (.inl rfl)) pgs_nil)))) (fun _ _ _ _ _ => pts_nil) (fun _ _ _ _ _ => (pe_call G__law_same hr (by rfl) T.m__law_same T.F__law_same.kp T.b__law_same .nil pass0 (pa_cons (pv 2) (pa_cons (pv 3) pa_nil))))) pa_nil))))))))), ?_⟩
    have kb := fun (m : String) hm => kit_tab (m := m) hp.ty hm
    obtain ⟨b1, k1⟩ := kb "bool" (by simp)
    obtain ⟨b2, k2⟩ := kb "int" (by simp)
    obtain ⟨b3, k3⟩ := kb "list" (by simp)
    obtain ⟨b4, k4⟩ := kb "tuple" (by simp)
    obtain ⟨b5, k5⟩ := kb "str" (by simp)
    refine q_when (b := false) ?_ (fun h => by cases h) fun _ H1 e1 => ?_
    · exact et_or (a := false) (b := false) (et_test (ev_op (ev_isi (ev_var rfl) ev_c hx k1) (ev_isi (ev_var rfl) ev_c hy k1) rv_neb)) fun _ => et_test (ev_op (ev_isi (ev_var rfl) ev_c hx k2) (ev_isi (ev_var rfl) ev_c hy k2) rv_neb)
    have hx := dp_ex e1 hx
    have hy := dp_ex e1 hy
    refine q_when (b := false) ?_ (fun h => by cases h) fun _ H2 e2 => ?_
    · exact et_or (a := false) (b := false) (et_test (ev_op (ev_isi (ev_var rfl) ev_c hx k3) (ev_isi (ev_var rfl) ev_c hy k3) rv_neb)) fun _ => et_test (ev_op (ev_isi (ev_var rfl) ev_c hx k4) (ev_isi (ev_var rfl) ev_c hy k4) rv_neb)
    have hx := dp_ex e2 hx
    have hy := dp_ex e2 hy
    refine q_when (et_and (et_not (et_B (ev_isi (ev_var rfl) ev_c hy k3))) fun _ => et_not (et_B (ev_isi (ev_var rfl) ev_c hy k4))) (fun hb H3 e3 => ?_) (fun hb H3 e3 => ?_)
    · -- no list, no tuple
      have hx := dp_ex e3 hx
      have hy := dp_ex e3 hy
      have hsc : scal x x = true ∧ x = y := by
        cases hp with
        | non => cases hx; cases hy; exact ⟨rfl, rfl⟩
        | bool b => cases hx; cases hy; exact ⟨rfl, rfl⟩
        | int i => cases hx; cases hy; exact ⟨rfl, rfl⟩
        | str s => cases hx; cases hy; exact ⟨rfl, rfl⟩
        | list _ _ =>
          have z : b3 = true := Option.some.inj (k3.symm.trans (show kitB "list" "list" = some true by decide +kernel))
          rw [z] at hb
          exact absurd hb (by cases b4 <;> decide)
        | tuple _ _ =>
          have z : b4 = true := Option.some.inj (k4.symm.trans (show kitB "tuple" "tuple" = some true by decide +kernel))
          rw [z, Bool.not_true, Bool.and_false] at hb
          exact absurd hb (by decide)
      obtain ⟨hsc, rfl⟩ := hsc
      refine s_ret (v := .bl (true && true)) (ev_andV (ev_op (ev_isi (ev_var rfl) ev_c hx k5) (ev_isi (ev_var rfl) ev_c hy k5) (rv_sc (by cases b5 <;> rfl))) fun _ => ev_op (ev_var rfl) (ev_var rfl) (rv_sc hsc)) fun H4 e4 => q H4 (((e1.trans e2).trans e3).trans e4)
    · have hx := dp_ex e3 hx
      have hy := dp_ex e3 hy
      have ex3 := (e1.trans e2).trans e3
      cases hp with
      | non => exact absurd hb (by rw [← Option.some.inj ((show kitB "NoneType" "list" = some false by decide +kernel).symm.trans k3), ← Option.some.inj ((show kitB "NoneType" "tuple" = some false by decide +kernel).symm.trans k4)]; decide)
      | bool b => exact absurd hb (by rw [← Option.some.inj ((show kitB "bool" "list" = some false by decide +kernel).symm.trans k3), ← Option.some.inj ((show kitB "bool" "tuple" = some false by decide +kernel).symm.trans k4)]; decide)
      | int i => exact absurd hb (by rw [← Option.some.inj ((show kitB "int" "list" = some false by decide +kernel).symm.trans k3), ← Option.some.inj ((show kitB "int" "tuple" = some false by decide +kernel).symm.trans k4)]; decide)
      | str z => exact absurd hb (by rw [← Option.some.inj ((show kitB "str" "list" = some false by decide +kernel).symm.trans k3), ← Option.some.inj ((show kitB "str" "tuple" = some false by decide +kernel).symm.trans k4)]; decide)
      | @list n ds hn hds =>
        cases hx with
        | @lst a xs _ hX aX => cases hy with
          | @lst b ys _ hY aY =>
            have lx := dpa_len aX
            have ly := dpa_len aY
            refine s_ret (v := .bl (true && true)) (ev_andV (ev_op (ev_cb (ea_cons (ev_var rfl) ea_nil) (rc_len (.inl hX))) (ev_cb (ea_cons (ev_var rfl) ea_nil) (rc_len (.inl hY))) ?_) fun _ => ev_allT (n := xs.length) ?_) fun H4 e4 => q H4 (ex3.trans e4)
            · rw [lx, ly]
              exact rv_sc rfl
            · rw [← given_all]
              refine el_lcZ _ _ (ea_cons (ev_var rfl) (ea_cons (ev_var rfl) ea_nil)) hX hY (by omega) (by omega) fun i x y Tt Hb eb gx gy hT => ?_
              obtain ⟨d1, g1, p1⟩ := dpa_get aX gx
              obtain ⟨d2, g2, p2⟩ := dpa_get aY gy
              obtain rfl : d1 = d2 := Option.some.inj (g1.symm.trans g2)
              refine ⟨_, tg_two (.inl (.inl hT)) tg_name tg_name, rfl, et_yes, fun _ => ?_⟩
              refine ev_call (ea_cons (ev_var rfl) (ea_cons (ev_var rfl) ea_nil)) ?_
              exact spV_same (hds d1 (List.mem_of_getElem? g1)) (dp_ex eb p1) (dp_ex eb p2)
      | @tuple n ds hn hds =>
        cases hx with
        | @tup a xs _ hX aX => cases hy with
          | @tup b ys _ hY aY =>
            have lx := dpa_len aX
            have ly := dpa_len aY
            refine s_ret (v := .bl (true && true)) (ev_andV (ev_op (ev_cb (ea_cons (ev_var rfl) ea_nil) (rc_len (.inr hX))) (ev_cb (ea_cons (ev_var rfl) ea_nil) (rc_len (.inr hY))) ?_) fun _ => ev_allT (n := xs.length) ?_) fun H4 e4 => q H4 (ex3.trans e4)
            · rw [lx, ly]
              exact rv_sc rfl
            · rw [← given_all]
              refine el_lcZT _ _ (ea_cons (ev_var rfl) (ea_cons (ev_var rfl) ea_nil)) hX hY (by omega) (by omega) fun i x y Tt Hb eb gx gy hT => ?_
              obtain ⟨d1, g1, p1⟩ := dpa_get aX gx
              obtain ⟨d2, g2, p2⟩ := dpa_get aY gy
              obtain rfl : d1 = d2 := Option.some.inj (g1.symm.trans g2)
              refine ⟨_, tg_two (.inl (.inl hT)) tg_name tg_name, rfl, et_yes, fun _ => ?_⟩
              refine ev_call (ea_cons (ev_var rfl) (ea_cons (ev_var rfl) ea_nil)) ?_
              exact spV_same (hds d1 (List.mem_of_getElem? g1)) (dp_ex eb p1) (dp_ex eb p2)
end

end Su
namespace Su
/-! ### for i, x in enumerate(xs) -/
theorem s_forE {K : PySem.W.Frag} {a : Addr} {xs : List V} {g : TG} {tb : TS} {D : Ends} {σ : L2.St} {H : Hp} {ta : TA} (h : EvA ta σ H [.ref a]) (hx : SqL K H a xs) (Pv : Nat → L2.St → Hp → Prop) (h0 : ∀ H1, Ex H H1 → Pv 0 σ H1) (hl : ∀ i σ' H', i ≤ xs.length → Pv i σ' H' → SqL K H' a xs)
    (hs : ∀ i x T σ' Hc, xs[i]? = some x → Pv i σ' Hc → Hc T = none → ∃ σ2, Tgt g (.ref T) σ' σ2 (upd Hc T (.tup [.int (i : Nat), x])) ∧ tb { D with nx := Pv (i + 1), ct := Pv (i + 1), bk := D.nx } σ2 (upd Hc T (.tup [.int (i : Nat), x])))
    (hd : ∀ σ' H', Pv xs.length σ' H' → D.nx σ' H') : tFor (iEnum K ta) g tb D σ H :=
  h H (Ex.refl H) _ fun H1 e1 => ⟨a, xs, rfl, ex_l e1 hx, by
    refine ⟨fun i m σ' H' => m = xs.length - i ∧ i ≤ xs.length ∧ Pv i σ' H', ⟨xs.length, by simp, Nat.zero_le _, h0 H1 e1⟩, ?_⟩
    rintro i m σ' H' ⟨rfl, hi, p⟩
    have hX := hl i σ' H' hi p
    by_cases hlt : i < xs.length
    · refine .inr ⟨⟨xs, xs[i], hX, List.getElem?_eq_getElem hlt⟩, Pv (i + 1), fun σ2 H2 p' => ⟨xs.length - (i + 1), by omega, rfl, hlt, p'⟩, fun y H2 hy => ?_⟩
      obtain ⟨T, x, rfl, nT, rfl, hxx⟩ := hy
      obtain ⟨σ2, h1, h2⟩ := hs i x T σ' H' (hxx xs hX) p nT
      exact h1 _ (Ex.refl _) _ h2
    · have ei : i = xs.length := by omega
      subst ei
      exact .inl ⟨⟨xs, hX, Nat.le_refl _⟩, hd σ' H' p⟩⟩

end Su
namespace Su
/-! ### own exceptions: X(), except .. as e, isinstance(e, ..) -/
section
variable {X : Cx} {C : Addr} {bmB : List Value} {B newId initId : String}
theorem pmk_own0 {x : Str} {p pos : Pos} (F : ExcBaseFacts B newId initId bmB) (q : PySem.W.excIn X.K C bmB newId = true) (gC : X.mg x = some (.ref C)) (kC : PySem.W.keepIn X.K (.ref C) = true) (r : Raises X (.ref C)) (hg : Gl X x)
    (hdb : (x == ("__debug__" : Str)) = false := by decide) : PMk X (.Call (.Name x p) [] [] pos) (fun _ H Q => Q (.ref C) none H) := by
  intro pins s σ H Q I h
  refine wpAny_Call_Name_kw (ld_glob I hg gC ?_ hdb)
  refine PySem.W.callWith_K0 I.kIn kC ?_
  obtain ⟨bm, N, nm, qn, bs, hdct, sn, sub, ab, col, dd, k0, k1, k2, k3, k5, mN, hC, hN, hni, T⟩ := exc_obj I.kIn q
  refine wpAny_call_exc_subT F T hC hN hni (fun h' e hm => ?_) (Nat.zero_le _)
  exact mk_of I hm r h (I.hok.gone hm.new)
theorem pss_ex {ι : Type} {Pi : ι → Prop} {st : List Stmt} {t : ι → TS} (h : ∀ i, Pi i → PSs X st (t i)) : PSs X st (fun D σ H => ∃ i, Pi i ∧ t i D σ H) := ⟨fun pins s σ H D I ⟨i, hp, ht⟩ => (h i hp).run pins s σ H D I ht⟩
end
theorem rc_isE {K : PySem.W.Frag} {D a C : Addr} {H : Hp} {b : Bool} (h : PySem.W.kitOne K (.ref D) (.ref C) = some b) : RC (rIsE K D a) [.ref a, .ref C] H (.bl b) := fun H1 _ _ q => ⟨.ref C, .ref C, b, rfl, fun _ r => r, h, q H1 (Ex.refl H1)⟩
theorem rc_isEt {K : PySem.W.Frag} {D a : Addr} {n : String} {H : Hp} {b : Bool} (h : PySem.W.kitOne K (.ref D) (.type n) = some b) : RC (rIsE K D a) [.ref a, .ty n] H (.bl b) := fun H1 _ _ q => ⟨.ty n, .type n, b, rfl, fun _ r => r, h, q H1 (Ex.refl H1)⟩
def boolD (bs : List Bool) : PyData := .list (bs.map .bool)
theorem dp_bools {K : PySem.W.Frag} {H : Hp} {l : Addr} {bs : List Bool} (hl : SqL K H l (bs.map V.bl)) : Dp K H (.ref l) (boolD bs) := .lst hl (dpa_of V.bl PyData.bool bs fun i _ => .bl i)
theorem rv_eqDD {K : PySem.W.Frag} {H : Hp} {x y : V} {d e : PyData} {b : Bool} (h1 : Dp K H x d) (h2 : Dp K H y e) (hs : SeqAt.shaped d = true) (hs2 : SeqAt.shaped e = true) (hb : PyData.eqv d e = b) : RV (rEqD K) x y H (.bl b) := fun H1 ex Q q =>
  ⟨d, e, dp_ex ex h1, dp_ex ex h2, hs, hs2, by rw [hb]; exact q H1 (Ex.refl H1)⟩
theorem rv_neDD {K : PySem.W.Frag} {H : Hp} {x y : V} {d e : PyData} {b : Bool} (h1 : Dp K H x d) (h2 : Dp K H y e) (hs : SeqAt.shaped d = true) (hs2 : SeqAt.shaped e = true) (hb : PyData.eqv d e = !b) : RV (rNeD K) x y H (.bl b) := fun H1 ex Q q =>
  ⟨d, e, dp_ex ex h1, dp_ex ex h2, hs, hs2, by rw [hb, Bool.not_not]; exact q H1 (Ex.refl H1)⟩

end Su
namespace Su
/-! ### o[i] += e of a list; [e] * n -/
section
variable {X : Cx}
def rGetL (K : PySem.W.Frag) : V → V → Hp → VK → Prop := fun x y H Q => ∃ p xs i v, x = .ref p ∧ y = .int i ∧ 0 ≤ i ∧ SqL K H p xs ∧ atI xs i = some v ∧ Q v H
theorem get_list : PGet X (rGetL X.K) := by
  intro pins s σ H x y v u Q I rx ry h
  obtain ⟨p, xs, i, z, rfl, rfl, h0, hq, he, q⟩ := h
  cases rx
  obtain ⟨t, rfl⟩ := ry
  obtain ⟨its, r, pl, hz⟩ := I.list hq
  obtain ⟨j, h1, h2, h3, h4, h5⟩ := atI_get he
  obtain ⟨w, ew, rw'⟩ := r.get h2
  have hl := r.length
  have hn := line63
  have hj : i.toNat = j := by
    rw [seqIndex_of h0 h5] at h1
    exact Option.some.inj h1
  exact wpAny_getItem_list pl.isList h0 (by omega) (by rw [hj]; simpa using ew) ⟨z, H, I, rw', q⟩
end
theorem q_augL {to ti te : TE} {K : PySem.W.Frag} {σ : L2.St} {H : Hp} {D : Ends} {tz : TS} {l : Addr} {xs : List V} {z a b : Int} {j : Nat} {f : Int → Int → Int} (hl : H l = some (.lst xs)) (ho : Ev to σ H (.ref l)) (hi : Ev ti σ H (.int z)) (hz : z = (j : Int)) (hx : xs[j]? = some (.int a)) (h : Ev te σ H (.int b))
    (k : ∀ H1, Ex H H1 → tz D σ (upd H1 l (.lst (xs.set j (.int (f a b)))))) : tSeq (tAugS to ti te (rGetL K) (ipI f) rSetL) tz D σ H := by
  have hj : j < xs.length := (List.getElem?_eq_some_iff.mp hx).1
  refine ho H (Ex.refl H) _ fun H1 e1 => hi H1 e1 _ fun H2 e2 => ?_
  refine ⟨l, xs, z, .int a, rfl, rfl, by omega, sq_of (e2 l _ (e1 l _ hl)), at_of hz hx, h H2 (e1.trans e2) _ fun H3 e3 => ?_⟩
  refine ⟨a, b, rfl, rfl, l, xs, z, j, rfl, rfl, e3 l _ (e2 l _ (e1 l _ hl)), ?_, k H3 ((e1.trans e2).trans e3)⟩
  rw [hz]
  exact ixN_nat hj
theorem st_lastAugL {to ti te : TE} {K : PySem.W.Frag} {σ : L2.St} {H : Hp} {D : Ends} {l : Addr} {xs : List V} {z a b : Int} {j : Nat} {f : Int → Int → Int} (hl : H l = some (.lst xs)) (ho : Ev to σ H (.ref l)) (hi : Ev ti σ H (.int z)) (hz : z = (j : Int)) (hx : xs[j]? = some (.int a)) (h : Ev te σ H (.int b))
    (k : ∀ H1, Ex H H1 → D.nx σ (upd H1 l (.lst (xs.set j (.int (f a b)))))) : tAugS to ti te (rGetL K) (ipI f) rSetL D σ H := q_augL (D := D) (tz := fun D' σ' H' => D'.nx σ' H') hl ho hi hz hx h k
theorem flat1 {v : V} : ∀ n : Nat, (List.replicate n [v]).flatten = List.replicate n v
  | 0 => rfl
  | n + 1 => by rw [List.replicate_succ, List.replicate_succ, List.flatten_cons, flat1 n]; rfl
theorem el_rep1 {ta tb : TE} {σ : L2.St} {H : Hp} {v : V} {k : Int} (ha : EvL ta σ H [v]) (hb : Ev tb σ H (.int k)) (h0 : 0 ≤ k) (h1 : k ≤ 100000) : EvL (tOp rRep ta tb) σ H (List.replicate k.toNat v) := fun H1 e Q q =>
  ha H1 e _ fun p H2 hp e2 h2 => hb H2 (e.trans e2) _ fun H3 e3 => ⟨p, k, [v], rfl, rfl, e3 p _ h2, by omega, by omega, sz_of (by show 1 * k.toNat ≤ _; omega), fun r hr => by
    rw [flat1]
    exact q r _ (fresh_back (e2.trans e3) hr) ((e2.trans e3).trans (Ex.new hr)) upd_same⟩

end Su
namespace Su
open TL
/-! ### names: texts, each another -/
theorem ev_join {K : PySem.W.Frag} {to te : TE} {σ : L2.St} {H : Hp} {a : Str} {ys : List Str} (h1 : Ev to σ H (.str a)) (h2 : EvL te σ H (ys.map V.str)) (hz : (ys.map (·.length)).sum + ys.length * a.length ≤ 16777216) :
    Ev (tM1 (fun x xs H Q => ∃ a p, ∃ ys : List Str, x = .str a ∧ xs = [.ref p] ∧ (SqL K H p (ys.map V.str) ∨ SqT K H p (ys.map V.str)) ∧ (ys.map (·.length)).sum + ys.length * a.length ≤ 16777216 ∧ Q (.str (Txt.join a ys)) H) to te) σ H (.str (Txt.join a ys)) := fun H1 e Q q =>
  h1 H1 e _ fun H2 e2 => ⟨⟨a, rfl⟩, h2 H2 (e.trans e2) _ fun p H3 _ e3 h3 => ⟨a, p, ys, rfl, rfl, .inl (sq_of h3), hz, q H3 (e2.trans e3)⟩⟩
theorem ev_addS {ta tb : TE} {σ : L2.St} {H : Hp} {x y : Str} (h1 : Ev ta σ H (.str x)) (h2 : Ev tb σ H (.str y)) (hz : x.length + y.length ≤ 100000) :
    Ev (tOp (fun x y H Q => ∃ i j, x = .str i ∧ y = .str j ∧ i.length + j.length ≤ sizeLine ∧ Q (.str (i ++ j)) H) ta tb) σ H (.str (x ++ y)) := ev_op h1 h2 fun H1 e Q q => ⟨x, y, rfl, rfl, sz_of hz, q H1 (Ex.refl H1)⟩
theorem ev_slS {te : TE} {tl' th : TO} {σ : L2.St} {H : Hp} {z : Str} {lo hi : Option Int} (h : Ev te σ H (.str z)) (h1 : EvO tl' σ H lo) (h2 : EvO th σ H hi) (hz : z.length ≤ 100000) : Ev (tSl rSlS te tl' th) σ H (.str (cutS z lo hi)) := fun H1 e Q q =>
  h H1 e _ fun H2 e2 => h1 H2 (e.trans e2) _ fun H3 e3 => h2 H3 ((e.trans e2).trans e3) _ fun H4 e4 => ⟨z, rfl, sz_of hz, q H4 ((e2.trans e3).trans e4)⟩
theorem tl_cutTo {z : Str} {p : Nat} : tl (cutS z none (some (p : Int))) = (tl z).take p := by
  unfold cutS
  rw [tl_mk, HT.sIx_none, HT.sIx_nat, List.drop_zero, Nat.sub_zero]
  by_cases h : p ≤ z.length
  · rw [Nat.min_eq_left h]
  · rw [Nat.min_eq_right (by omega), List.take_of_length_le (by rw [len_tl]; exact Nat.le_refl _), List.take_of_length_le (by rw [len_tl] at h; omega)]
theorem tl_cutFrom {z : Str} {p : Nat} : tl (cutS z (some (p : Int)) none) = (tl z).drop p := by
  unfold cutS
  rw [tl_mk, HT.sIx_none, HT.sIx_nat]
  by_cases h : p ≤ z.length
  · rw [Nat.min_eq_left h, List.take_of_length_le (by rw [List.length_drop, ← len_tl]; exact Nat.le_refl _)]
  · rw [Nat.min_eq_right (by omega), Nat.sub_self, List.take_zero, List.drop_of_length_le (by rw [len_tl] at h; omega)]
theorem join_ones {α : Type} (f : α → Nat) : ∀ l : List α, joinL [] (l.map fun x => [f x]) = l.map f
  | [] => rfl
  | [a] => rfl
  | a :: b :: r => by
    show [f a] ++ ([] ++ joinL [] ((b :: r).map fun x => [f x])) = _
    rw [join_ones f (b :: r)]
    rfl
theorem inV_str {z : Str} {ws : List Str} : inV (.str z) (ws.map V.str) = decide (z ∈ ws) := by
  unfold inV
  induction ws with
  | nil => rfl
  | cons a r ih =>
    rw [List.map_cons, List.any_cons, ih]
    show ((a == z) || decide (z ∈ r)) = _
    by_cases h : z = a
    · subst h
      simp
    · rw [beq_eq_false_iff_ne.mpr (fun e => h e.symm)]
      simp [h]
theorem flat_strs {ws : List Str} : (ws.map V.str).all flatV = true := by
  rw [List.all_eq_true]
  intro x hx
  obtain ⟨z, _, rfl⟩ := List.mem_map.mp hx
  rfl
/-- unlike ones within a list are no more than its items -/
theorem nodup_le {α : Type} [DecidableEq α] : ∀ {l m : List α}, l.Nodup → (∀ x ∈ l, x ∈ m) → l.length ≤ m.length
  | [], _, _, _ => Nat.zero_le _
  | a :: r, m, h, hs => by
    have h1 := List.nodup_cons.mp h
    have ha := hs a List.mem_cons_self
    have ih := nodup_le (l := r) (m := m.erase a) h1.2 fun x hx => (List.mem_erase_of_ne (fun e : x = a => h1.1 (by rw [← e]; exact hx))).mpr (hs x (List.mem_cons_of_mem _ hx))
    have hp : 0 < m.length := List.length_pos_of_mem ha
    rw [List.length_erase_of_mem ha] at ih
    rw [List.length_cons]
    omega
def lettersS : Str := Str.ofString "abcdefghijklmnopqrstuvwxyz"
theorem letters_at {i : Int} (h0 : 0 ≤ i) (h : i < 26) : atI lettersS.cps.toList i = some (97 + i.toNat) := by
  obtain ⟨n, rfl⟩ : ∃ n : Nat, i = (n : Int) := ⟨i.toNat, by omega⟩
  have hn : n < 26 := by omega
  have e : lettersS.cps.toList = (List.range 26).map fun k => 97 + k := by decide +kernel
  rw [e]
  refine atI_nat ?_
  rw [List.getElem?_map, List.getElem?_range hn]
  rfl
theorem ev_letter {ta tb : TE} {σ : L2.St} {H : Hp} {i : Int} (ha : Ev ta σ H (.str lettersS)) (hb : Ev tb σ H (.int i)) (h0 : 0 ≤ i) (h : i < 26) : Ev (tOp rIxS ta tb) σ H (.str ⟨#[97 + i.toNat]⟩) := ev_op ha hb (rv_ixS (by decide +kernel) (letters_at h0 h))
/-- the word with another letter at a place -/
def varW (w : List Nat) (p : Nat) (raw : Int) (j : Nat) : List Nat := w.set p (97 + ((raw + (j : Int)) % 26).toNat)
theorem var_ne {w : List Nat} {p : Nat} {raw : Int} (hp : p < w.length) {i j : Nat} (hi : i < 26) (hj : j < 26) (h : varW w p raw i = varW w p raw j) : i = j := by
  have e := congrArg (fun l : List Nat => l[p]?) h
  simp only [varW] at e
  rw [List.getElem?_set_self hp, List.getElem?_set_self hp] at e
  have e2 := Option.some.inj e
  have a1 := Int.emod_nonneg (raw + (i : Int)) (show (26 : Int) ≠ 0 by decide)
  have a2 := Int.emod_nonneg (raw + (j : Int)) (show (26 : Int) ≠ 0 by decide)
  omega
theorem var_all {w : List Nat} {p : Nat} {raw : Int} {ws : List Str} (hp : p < w.length) (hw : ws.length ≤ 20) (h : ∀ j, j < 25 → (⟨(varW w p raw j).toArray⟩ : Str) ∈ ws) : False := by
  have nd : ((List.range 25).map fun j => (⟨(varW w p raw j).toArray⟩ : Str)).Nodup := by
    refine List.nodup_iff_pairwise_ne.mpr ?_
    rw [List.pairwise_map]
    refine List.Pairwise.imp_of_mem ?_ (List.nodup_iff_pairwise_ne.mp List.nodup_range)
    intro i j hi hj hne e
    have e2 := congrArg tl e
    rw [tl_mk, tl_mk] at e2
    exact hne (var_ne hp (by have := List.mem_range.mp hi; omega) (by have := List.mem_range.mp hj; omega) e2)
  have := nodup_le nd (m := ws) fun x hx => by
    obtain ⟨j, hj, rfl⟩ := List.mem_map.mp hx
    exact h j (List.mem_range.mp hj)
  rw [List.length_map, List.length_range] at this
  omega
def NameOk (z : Str) : Prop := 1 ≤ (tl z).length ∧ (tl z).length ≤ 12 ∧ ∀ c ∈ tl z, c < 200
theorem NameOk.ok {z : Str} (h : NameOk z) : PyData.strOk z = true := by
  unfold PyData.strOk
  rw [Array.all_eq_true']
  intro c hc
  exact decide_eq_true (Nat.lt_trans (h.2.2 c (Array.mem_toList_iff.mpr hc)) (by decide))
section
variable {P : Program} {w : World} {K : PySem.W.Frag} {mg : Str → Option Value} {base : Heap}
def spNames (K : PySem.W.Frag) : Sp := fun vs H Q _ => ∃ (a : Addr) (rows : List Int) (n : Nat), vs = [.ref a, .int (n : Int)] ∧ SqL K H a (rows.map V.int) ∧ n ≤ rows.length ∧ n ≤ 20 ∧ (∀ x ∈ rows, -(10 ^ 18) < x ∧ x < 10 ^ 18) ∧
  ∀ (ws : List Str) H' p, H p = none → Ex H H' → H' p = some (.lst (ws.map V.str)) → ws.length = n → ws.Nodup → (∀ z ∈ ws, NameOk z) → Q (.ref p) H'
def WordI (w0 : List Nat) (pl : Nat) (raw : Int) (ws : List Str) (i : Nat) (z : Str) : Prop := (tl z).length = w0.length ∧ (∀ c ∈ tl z, c < 200) ∧ (z ∉ ws ∨ ((∀ j, j + 1 < i → (⟨(varW w0 pl raw j).toArray⟩ : Str) ∈ ws) ∧ (∀ j, i = j + 1 → tl z = varW w0 pl raw j) ∧ (i = 0 → tl z = w0)))
theorem word_step {w0 : List Nat} {pl : Nat} {raw : Int} {ws : List Str} {i : Nat} {z z' : Str} (h : WordI w0 pl raw ws i z) (hz : z ∈ ws) (hz' : tl z' = varW (tl z) pl raw i) : WordI w0 pl raw ws (i + 1) z' := by
  obtain ⟨hl, hc, h⟩ := h
  refine ⟨by rw [hz']; unfold varW; rw [List.length_set, hl], fun c hc' => ?_, .inr ?_⟩
  · rw [hz'] at hc'
    unfold varW at hc'
    rcases List.mem_or_eq_of_mem_set hc' with h' | h'
    · exact hc c h'
    · have := Int.emod_lt_of_pos (raw + (i : Int)) (show (0 : Int) < 26 by decide)
      omega
  rcases h with h | ⟨h1, h2, h3⟩
  · exact absurd hz h
  have hv : varW (tl z) pl raw i = varW w0 pl raw i := by
    cases i with
    | zero => rw [h3 rfl]
    | succ j =>
      rw [h2 j rfl]
      unfold varW
      rw [List.set_set]
  refine ⟨fun j hj => ?_, fun j hj => ?_, fun hj => by omega⟩
  · by_cases e : j + 1 < i
    · exact h1 j e
    · have ei : i = j + 1 := by omega
      have := h2 j ei
      rw [← this]
      exact hz
  · obtain rfl : i = j := by omega
    rw [hz', hv]
theorem word_stay {w0 : List Nat} {pl : Nat} {raw : Int} {ws : List Str} {i : Nat} {z : Str} (h : WordI w0 pl raw ws i z) (hz : z ∉ ws) : WordI w0 pl raw ws (i + 1) z := ⟨h.1, h.2.1, .inl hz⟩
theorem ok__law_names {f : Addr} {fd : FuncData} {k : Nat} (F : Fun K "_law_names" "_law_names" s__law_names f fd) (T : Top K mg) : FnOk P w K mg base CX0 (k + 1) f fd ["_law_some", "_law_many"] (spNames K) := by
  have nd := sc__law_names.nd
  refine F.ok sc__law_names (fun vs H Q E h => ?_) (fun cdv A outer s H vs Q E hr h => ?_)
  · obtain ⟨a, rows, n, rfl, _⟩ := h
    rfl
  · obtain ⟨a, rows, n, rfl, hS, hlen, n2, hbd, q⟩ := h
    refine ⟨_, (pss_cons (ps_set (i := 2) nd rfl (.inr rfl) pe_str)
      (pss_cons (ps_set (i := 3) nd rfl (.inl rfl) (pe_lst pa_nil))
      (pss_cons (ps_for PassesOwn.never rfl (pi_range1 rfl T.m_range (pa_cons (pv 1) pa_nil)) (pg_name (i := 4) nd rfl (.inl rfl))
        (pss_cons (ps_set (i := 5) nd rfl (.inr rfl) (pe_ix ix_list (pv 0) (pv 4) (fun _ _ => rfl)))
          (pss_cons (ps_set (i := 6) nd rfl (.inl rfl) (pe_op op_add pe_int (pe_op op_mod (pv 5) pe_int)))
          (pss_cons (ps_set (i := 7) nd rfl (.inr rfl) (pe_op op_mod (pe_op op_fdiv (pv 5) pe_int) pe_int))
          (pss_cons (ps_set (i := 8) nd rfl (.inl rfl) (pe_join pe_str (pe_lc (own := [("_law_k", 12)]) (g := gName 12) (tt := tYes) rfl nd (pi_range1 rfl T.m_range (pa_cons (pv 6) pa_nil)) (blkOk_by (own := [("_law_k", 12)]) (N := Su.N__law_names) (sc := defScope s__law_names) (by decide +kernel)) (fun _ _ _ _ _ => (pg_name (i := 12) nd rfl (.inl rfl))) (fun _ _ _ _ _ => pts_nil) (fun _ _ _ _ _ => (pe_ix ix_str (pv 2) (pe_op op_mod (pe_op op_add (pe_op op_fdiv (pv 5) pe_int) (pe_op op_mul (pv 12) (pv 7))) pe_int) (fun _ _ => rfl))))))
          (pss_cons (ps_set (i := 9) nd rfl (.inl rfl) (pe_op op_mod (pe_op op_fdiv (pv 5) pe_int) (pv 6)))
          (pss_cons (ps_for PassesOwn.never rfl (pi_range1 rfl T.m_range (pa_cons pe_int pa_nil)) (pg_name (i := 10) nd rfl (.inl rfl))
            (pss_one (ps_if (pt_cmpR op_in_seq (pv 8) (pv 3) rfl)
                (pss_cons (ps_set (i := 11) nd rfl (.inl rfl) (pe_ix ix_str (pv 2) (pe_op op_mod (pe_op op_add (pv 5) (pv 10)) pe_int) (fun _ _ => rfl)))
                  (pss_one (ps_set (i := 8) nd rfl (.inl rfl) (pe_op op_add_str (pe_op op_add_str (pe_slice sl_str (pv 8) po_none (po_some (pv 9))) (pv 11)) (pe_slice sl_str (pv 8) (po_some (pe_op op_add (pv 9) pe_int)) po_none)))))
                pss_nil)))
          (pss_one (ps_expr (pe_bm PySem.F.plainAttrs_list PySem.F.slot_list_append PySem.F.type_list_append mt_append (pv 3) (pa_cons (pv 8) pa_nil)))))))))))
      (pss_one (ps_ret (pv 3)))))), ?_⟩
    refine q_asg (v := .str lettersS) ev_c fun H1 e1 => ?_
    refine q_asgL (el_lst ea_nil (by decide)) fun p H2 hp e2 h2 => ?_
    refine q_forR1 (by walk_at "ea") (by omega) (fun i σ' H' => ∃ (ws : List Str) (y4 y5 y6 y7 y8 y9 y10 y11 y12 : Option V), σ' = [some (.ref a), some (.int (n : Int)), some (.str lettersS), some (.ref p), y4, y5, y6, y7, y8, y9, y10, y11, y12] ∧ Ex H H' ∧ H' p = some (.lst (ws.map V.str)) ∧
      ws.length = i ∧ ws.Nodup ∧ ∀ z ∈ ws, NameOk z) ?_ ?_ ?_
    · intro H3 e3
      exact ⟨[], none, none, none, none, none, none, none, none, none, rfl, (e1.trans e2).trans e3, e3 p _ h2, rfl, List.nodup_nil, fun z hz => absurd hz List.not_mem_nil⟩
    · rintro i σ' H' hi ⟨ws, y4, y5, y6, y7, y8, y9, y10, y11, y12, rfl, ex, hp', hl, hnd, hok⟩
      have hs := ex_l ex hS
      refine q_asg (by walk_at "ev") fun H3 e3 => ?_
      have hs := ex_l e3 hs
      obtain ⟨raw, hraw, r1, r2⟩ : ∃ raw, rows.getD (i : Int).toNat 0 = raw ∧ -(10 ^ 18) < raw ∧ raw < 10 ^ 18 := ⟨_, rfl, (by
        rw [List.getD_eq_getElem?_getD, List.getElem?_eq_getElem (show (i : Int).toNat < rows.length by omega)]
        exact (hbd _ (List.getElem_mem _)).1), (by
        rw [List.getD_eq_getElem?_getD, List.getElem?_eq_getElem (show (i : Int).toNat < rows.length by omega)]
        exact (hbd _ (List.getElem_mem _)).2)⟩
      rw [hraw]
      clear hraw
      refine q_asg (by walk_at "ev") fun H4 e4 => ?_
      obtain ⟨size, hsz⟩ : ∃ size : Nat, 1 + raw % 12 = (size : Int) := ⟨(1 + raw % 12).toNat, by omega⟩
      have hs1 : 1 ≤ size ∧ size ≤ 12 := by omega
      rw [hsz]
      clear hsz
      refine q_asg (by walk_at "ev") fun H5 e5 => ?_
      -- word
      refine q_asg (ev_join (a := Str.ofString "") (ys := (List.range size).map fun k : Nat => (⟨#[97 + ((raw / 13 + (k : Int) * (raw / 5 % 4)) % 26).toNat]⟩ : Str)) ev_c ?_ ?_) fun H6 e6 => ?_
      · have hg : ((List.range size).map fun k : Nat => (⟨#[97 + ((raw / 13 + (k : Int) * (raw / 5 % 4)) % 26).toNat]⟩ : Str)).map V.str = given ((size : Int)).toNat (fun _ => true) fun k => .str ⟨#[97 + ((raw / 13 + (k : Int) * (raw / 5 % 4)) % 26).toNat]⟩ := by
          unfold given
          rw [List.filter_eq_self.mpr (fun _ _ => rfl), List.map_map, Int.toNat_natCast]
          rfl
        rw [hg]
        refine el_lcR1 (n := (size : Int)) _ _ (by walk_at "ea") (by omega) (fun _ => rfl) (fun _ _ _ _ => et_yes) fun k H6 e6 hk _ => ?_
        have g1 := Int.emod_nonneg (raw / 13 + (k : Int) * (raw / 5 % 4)) (show (26 : Int) ≠ 0 by decide)
        have g2 := Int.emod_lt_of_pos (raw / 13 + (k : Int) * (raw / 5 % 4)) (show (0 : Int) < 26 by decide)
        refine ev_letter (i := (raw / 13 + (k : Int) * (raw / 5 % 4)) % 26) (ev_var rfl) (by walk_at "ev") g1 g2
      · have hsum : ((((List.range size).map fun k : Nat => (⟨#[97 + ((raw / 13 + (k : Int) * (raw / 5 % 4)) % 26).toNat]⟩ : Str)).map (·.length)).sum) = size := by
          rw [List.map_map]
          have : ((fun z : Str => z.length) ∘ fun k : Nat => (⟨#[97 + ((raw / 13 + (k : Int) * (raw / 5 % 4)) % 26).toNat]⟩ : Str)) = fun _ => 1 := rfl
          rw [this, List.map_const', List.length_range, List.sum_replicate_nat, Nat.mul_one]
        rw [hsum, List.length_map, List.length_range]
        have : (Str.ofString "").length = 0 := by decide +kernel
        rw [this]
        omega
      have hwe : tl (Txt.join (Str.ofString "") ((List.range size).map fun k : Nat => (⟨#[97 + ((raw / 13 + (k : Int) * (raw / 5 % 4)) % 26).toNat]⟩ : Str))) = (List.range size).map fun k : Nat => 97 + ((raw / 13 + (k : Int) * (raw / 5 % 4)) % 26).toNat := by
        rw [join_eq]
        have h0 := tl_join (Str.ofString "") ((List.range size).map fun k : Nat => (⟨#[97 + ((raw / 13 + (k : Int) * (raw / 5 % 4)) % 26).toNat]⟩ : Str))
        have h1 : tl (Str.ofString "") = [] := by decide +kernel
        rw [h1, List.map_map] at h0
        have h2 : (tl ∘ fun k : Nat => (⟨#[97 + ((raw / 13 + (k : Int) * (raw / 5 % 4)) % 26).toNat]⟩ : Str)) = fun k : Nat => [97 + ((raw / 13 + (k : Int) * (raw / 5 % 4)) % 26).toNat] := rfl
        rw [h2, join_ones] at h0
        exact h0
      have hwl : (tl (Txt.join (Str.ofString "") ((List.range size).map fun k : Nat => (⟨#[97 + ((raw / 13 + (k : Int) * (raw / 5 % 4)) % 26).toNat]⟩ : Str)))).length = size := by rw [hwe, List.length_map, List.length_range]
      have hwc : ∀ c ∈ tl (Txt.join (Str.ofString "") ((List.range size).map fun k : Nat => (⟨#[97 + ((raw / 13 + (k : Int) * (raw / 5 % 4)) % 26).toNat]⟩ : Str))), c < 200 := fun c hc => by
        rw [hwe] at hc
        obtain ⟨k, _, rfl⟩ := List.mem_map.mp hc
        have := Int.emod_lt_of_pos (raw / 13 + (k : Int) * (raw / 5 % 4)) (show (0 : Int) < 26 by decide)
        omega
      clear hwe
      generalize Txt.join (Str.ofString "") ((List.range size).map fun k : Nat => (⟨#[97 + ((raw / 13 + (k : Int) * (raw / 5 % 4)) % 26).toNat]⟩ : Str)) = z0 at hwl hwc ⊢
      refine q_asg (by walk_at "ev") fun H7 e7 => ?_
      have p1 := Int.emod_nonneg (raw / 7) (show (size : Int) ≠ 0 by omega)
      have p2 := Int.emod_lt_of_pos (raw / 7) (show 0 < (size : Int) by omega)
      obtain ⟨pl, hpl⟩ : ∃ pl : Nat, raw / 7 % (size : Int) = (pl : Int) := ⟨(raw / 7 % (size : Int)).toNat, by omega⟩
      have hpl2 : pl < size := by omega
      rw [hpl]
      clear hpl
      have ex7 := (((((ex.trans e3).trans e4).trans e5).trans e6).trans e7)
      have hp7 := ex_g ((((e3.trans e4).trans e5).trans e6).trans e7) hp'
      refine q_forR1 (n := 26) (by walk_at "ea") (by omega) (fun j σ' H' => ∃ (z : Str) (y10 y11 : Option V), σ' = [some (.ref a), some (.int (n : Int)), some (.str lettersS), some (.ref p), some (.int (i : Int)), some (.int raw), some (.int (size : Int)), some (.int (raw / 5 % 4)), some (.str z), some (.int (pl : Int)), y10, y11, y12] ∧ Ex H7 H' ∧ WordI (tl z0) pl raw ws j z) ?_ ?_ ?_
      · intro H8 e8
        exact ⟨z0, y10, y11, rfl, e8, rfl, hwc, .inr ⟨fun j hj => by omega, fun j hj => by omega, fun _ => rfl⟩⟩
      · rintro j σ' H8 hj ⟨z, y10, y11, rfl, e8, hW⟩
        have hzl : z.length = size := by rw [len_tl, hW.1, hwl]
        have hp8 := ex_g e8 hp7
        refine s_when (et_test (ev_op (ev_var rfl) (ev_var rfl) (rv_isL (sq_of hp8) rfl flat_strs))) (fun hb H9 e9 => ?_) (fun hb H9 e9 => ?_)
        · rw [inV_str] at hb
          have hin := of_decide_eq_true hb
          have g1 := Int.emod_nonneg (raw + (j : Int)) (show (26 : Int) ≠ 0 by decide)
          have g2 := Int.emod_lt_of_pos (raw + (j : Int)) (show (0 : Int) < 26 by decide)
          refine q_asg (ev_letter (i := (raw + (j : Int)) % 26) (ev_var rfl) (by walk_at "ev") g1 g2) fun H10 e10 => ?_
          refine s_asg (ev_addS (ev_addS (ev_slS (lo := none) (hi := some (pl : Int)) (ev_var rfl) eo_none (eo_some (by walk_at "ev")) (by omega)) (ev_var rfl) ?_) (ev_slS (lo := some ((pl : Int) + 1)) (hi := none) (ev_var rfl) (eo_some (by walk_at "ev")) eo_none (by omega)) ?_) fun H11 e11 => ?_
          · have := cutS_length z none (some (pl : Int))
            show _ + 1 ≤ 100000
            omega
          · have h1 := cutS_length z none (some (pl : Int))
            have h2 := cutS_length z (some ((pl : Int) + 1)) none
            have h3 : (cutS z none (some (pl : Int)) ++ (⟨#[97 + ((raw + (j : Int)) % 26).toNat]⟩ : Str)).length = (cutS z none (some (pl : Int))).length + 1 := by
              rw [len_tl, tl_append, List.length_append, ← len_tl]
              rfl
            rw [h3]
            omega
          refine ⟨_, _, _, rfl, (e8.trans e9).trans (e10.trans e11), word_step hW hin ?_⟩
          rw [tl_append, tl_append, tl_cutTo, show ((pl : Int) + 1) = ((pl + 1 : Nat) : Int) by omega, tl_cutFrom]
          unfold varW
          rw [List.set_eq_take_append_cons_drop, if_pos (by rw [← len_tl]; omega), List.append_assoc]
          rfl
        · rw [inV_str] at hb
          exact ⟨_, _, _, rfl, e8.trans e9, word_stay hW (of_decide_eq_false hb)⟩
      · rintro σ' H8 ⟨z, y10, y11, rfl, e8, hW⟩
        dsimp only
        refine s_app (ex_g e8 hp7) (by walk_at "ev") (by walk_at "ev") (by rw [List.length_map]; omega) fun H9 e9 => ?_
        have hzn : z ∉ ws := by
          rcases hW.2.2 with h | ⟨h1, _, _⟩
          · exact h
          · exact (var_all (w := tl z0) (p := pl) (raw := raw) (ws := ws) (by omega) (by omega) fun j hj => h1 j (by omega)).elim
        refine ⟨ws ++ [z], _, _, _, _, _, _, _, _, _, rfl, ex_up ((ex7.trans e8).trans e9) (fresh_back e1 hp), by rw [upd_same, List.map_append]; rfl, by rw [List.length_append, hl]; rfl, ?_, ?_⟩
        · refine List.nodup_append.mpr ⟨hnd, List.nodup_cons.mpr ⟨List.not_mem_nil, List.nodup_nil⟩, ?_⟩
          intro x hx y hy e
          obtain rfl := List.mem_singleton.mp hy
          exact hzn (e ▸ hx)
        · intro x hx
          rcases List.mem_append.mp hx with h | h
          · exact hok x h
          · obtain rfl := List.mem_singleton.mp h
            unfold NameOk
            rw [hW.1, hwl]
            exact ⟨hs1.1, hs1.2, hW.2.1⟩
    · rintro σ' H' ⟨ws, y4, y5, y6, y7, y8, y9, y10, y11, y12, rfl, ex, hp', hl, hnd, hok⟩
      refine s_ret (by walk_at "ev") fun H3 e3 => ?_
      exact q ws H3 p (fresh_back e1 hp) (ex.trans e3) (ex_g e3 hp') (by omega) hnd hok
end

end Su
namespace Su
/-! ### settling: what a row of nets comes to, step by step -/
def stepT (l : List Int) (i j : Nat) (c : Int) (l' : List Int) : Prop := ∃ x y, l[i]? = some x ∧ l[j]? = some y ∧ x < 0 ∧ 0 < y ∧ (∀ (k : Nat) (z : Int), k < i → l[k]? = some z → 0 ≤ z) ∧ (∀ (k : Nat) (z : Int), k < j → l[k]? = some z → z ≤ 0) ∧ c = (if y < -x then y else -x) ∧ l' = (l.set i (x + c)).set j (y - c)
def doneT (l : List Int) : Prop := (∀ (i : Nat) (z : Int), l[i]? = some z → 0 ≤ z) ∨ (∀ (i : Nat) (z : Int), l[i]? = some z → z ≤ 0)
inductive Tr : List Int → List (Nat × Nat × Int) → Prop
  | done {l} : doneT l → Tr l []
  | step {l i j c l' r} : stepT l i j c l' → Tr l' r → Tr l ((i, j, c) :: r)
theorem step_not_done {l l' : List Int} {i j : Nat} {c : Int} (h : stepT l i j c l') : ¬ doneT l := by
  obtain ⟨x, y, hx, hy, nx, py, _⟩ := h
  rintro (d | d)
  · have := d i x hx
    omega
  · have := d j y hy
    omega
theorem step_det {l l1 l2 : List Int} {i j i' j' : Nat} {c c' : Int} (h : stepT l i j c l1) (h' : stepT l i' j' c' l2) : i = i' ∧ j = j' ∧ c = c' ∧ l1 = l2 := by
  obtain ⟨x, y, hx, hy, nx, py, f1, f2, rfl, rfl⟩ := h
  obtain ⟨x', y', hx', hy', nx', py', f1', f2', rfl, rfl⟩ := h'
  have ei : i = i' := by
    rcases Nat.lt_trichotomy i i' with h | h | h
    · have := f1' i x h hx
      omega
    · exact h
    · have := f1 i' x' h hx'
      omega
  have ej : j = j' := by
    rcases Nat.lt_trichotomy j j' with h | h | h
    · have := f2' j y h hy
      omega
    · exact h
    · have := f2 j' y' h hy'
      omega
  subst ei
  subst ej
  obtain rfl : x = x' := Option.some.inj (hx.symm.trans hx')
  obtain rfl : y = y' := Option.some.inj (hy.symm.trans hy')
  exact ⟨rfl, rfl, rfl, rfl⟩
theorem Tr.det {l : List Int} {r : List (Nat × Nat × Int)} (h : Tr l r) : ∀ {r'}, Tr l r' → r = r' := by
  induction h with
  | done d =>
    intro r' h'
    cases h' with
    | done _ => rfl
    | step s _ => exact absurd d (step_not_done s)
  | step s _ ih =>
    intro r' h'
    cases h' with
    | done d => exact absurd d (step_not_done s)
    | step s' t' =>
      obtain ⟨rfl, rfl, rfl, rfl⟩ := step_det s s'
      rw [ih t']
theorem set_get {l : List Int} {i : Nat} {x : Int} (h : l[i]? = some x) (y : Int) : (l.set i y)[i]? = some y := List.getElem?_set_self (List.getElem?_eq_some_iff.mp h).1
theorem set_get_ne {l : List Int} {i k : Nat} (y : Int) (h : i ≠ k) : (l.set i y)[k]? = l[k]? := List.getElem?_set_ne h
theorem set_sum {l : List Int} {i : Nat} {x : Int} (h : l[i]? = some x) (y : Int) : (l.set i y).sum = l.sum - x + y := sum_set h
/-- a row that comes to nought and has something below has something above -/
theorem pos_of_sum : ∀ {l : List Int}, (∀ (i : Nat) (z : Int), l[i]? = some z → z ≤ 0) → l.sum ≤ 0
  | [], _ => by rw [List.sum_nil]; omega
  | a :: r, h => by
    have h1 := h 0 a rfl
    have h2 := pos_of_sum (l := r) fun i z hz => h (i + 1) z hz
    rw [List.sum_cons]
    omega
theorem some_pos {l : List Int} {i : Nat} {x : Int} (h : l[i]? = some x) (hx : x < 0) (hs : l.sum = 0) : ∃ (j : Nat) (y : Int), l[j]? = some y ∧ 0 < y := by
  by_cases hp : ∃ (j : Nat) (y : Int), l[j]? = some y ∧ 0 < y
  · exact hp
  · have h2 : ∀ (k : Nat) (z : Int), (l.set i 0)[k]? = some z → z ≤ 0 := by
      intro k z hz
      by_cases e : i = k
      · subst e
        rw [set_get h] at hz
        have := Option.some.inj hz
        omega
      · rw [set_get_ne 0 e] at hz
        by_cases hz0 : 0 < z
        · exact absurd ⟨k, z, hz, hz0⟩ hp
        · omega
    have h3 := pos_of_sum h2
    rw [set_sum h] at h3
    omega

end Su
namespace Su
/-! ### transfers -/
abbrev Net := Addr × Str × Int
def nrefs (qs : List Net) : List V := qs.map fun q => V.ref q.1
def TN (H : Hp) (qs : List Net) : Prop := ∀ q ∈ qs, H q.1 = some (.tup [.str q.2.1, .int q.2.2])
theorem TN.ex {H H' : Hp} {qs : List Net} (h : TN H qs) (e : Ex H H') : TN H' qs := fun q hq => e _ _ (h q hq)
theorem TN.nil {H : Hp} : TN H [] := fun q hq => absurd hq List.not_mem_nil
theorem TN.upd {H : Hp} {qs : List Net} {p : Addr} {xs ys : List V} (h : TN H qs) (hp : H p = some (.lst xs)) : TN (upd H p (.lst ys)) qs := fun q hq => by
  rw [upd_ne (ne_of (h q hq) hp (fun z => nomatch z))]
  exact h q hq
theorem TN.add {H : Hp} {qs : List Net} {q : Net} (h : TN H qs) (hq : H q.1 = some (.tup [.str q.2.1, .int q.2.2])) : TN H (qs ++ [q]) := fun r hr => by
  rcases List.mem_append.mp hr with h' | h'
  · exact h r h'
  · obtain rfl := List.mem_singleton.mp h'
    exact hq
theorem nrefs_at {qs : List Net} {i : Nat} {x : V} (h : (nrefs qs)[i]? = some x) : ∃ q, qs[i]? = some q ∧ x = .ref q.1 := by
  unfold nrefs at h
  rw [List.getElem?_map] at h
  cases hc : qs[i]? with
  | none => rw [hc] at h; cases h
  | some c => rw [hc] at h; exact ⟨c, rfl, (Option.some.inj h).symm⟩
theorem nrefs_len {qs : List Net} : (nrefs qs).length = qs.length := List.length_map _
/-- a told transfer: (from, to, coins) -/
abbrev Trn := Addr × Str × Str × Int
def trefs (ts : List Trn) : List V := ts.map fun t => V.ref t.1
def TT3 (H : Hp) (ts : List Trn) : Prop := ∀ t ∈ ts, H t.1 = some (.tup [.str t.2.1, .str t.2.2.1, .int t.2.2.2])
theorem TT3.ex {H H' : Hp} {ts : List Trn} (h : TT3 H ts) (e : Ex H H') : TT3 H' ts := fun q hq => e _ _ (h q hq)
theorem TT3.nil {H : Hp} : TT3 H [] := fun q hq => absurd hq List.not_mem_nil
theorem TT3.upd {H : Hp} {ts : List Trn} {p : Addr} {xs ys : List V} (h : TT3 H ts) (hp : H p = some (.lst xs)) : TT3 (upd H p (.lst ys)) ts := fun q hq => by
  rw [upd_ne (ne_of (h q hq) hp (fun z => nomatch z))]
  exact h q hq
theorem TT3.add {H : Hp} {ts : List Trn} {t : Trn} (h : TT3 H ts) (ht : H t.1 = some (.tup [.str t.2.1, .str t.2.2.1, .int t.2.2.2])) : TT3 H (ts ++ [t]) := fun r hr => by
  rcases List.mem_append.mp hr with h' | h'
  · exact h r h'
  · obtain rfl := List.mem_singleton.mp h'
    exact ht
/-- the transfers as the steps say, with names -/
def named (ns : List Str) (r : List (Nat × Nat × Int)) : List (Str × Str × Int) := r.map fun t => (ns.getD t.1 Str.empty, ns.getD t.2.1 Str.empty, t.2.2)
def netsOf (qs : List Net) : List Int := qs.map (·.2.2)
def nmsOf (qs : List Net) : List Str := qs.map (·.2.1)

end Su
namespace Su
section
variable {P : Program} {w : World} {K : PySem.W.Frag} {mg : Str → Option Value} {base : Heap}
def spTransfers (K : PySem.W.Frag) (fU : Addr) : Sp := fun vs H Q E => ∃ (a : Addr) (qs : List Net), vs = [.ref a] ∧ SqL K H a (nrefs qs) ∧ TN H qs ∧ qs.length ≤ 1000 ∧
  ((netsOf qs).sum = 0 → ∀ (ts : List Trn) r H' p, H p = none → Ex H H' → H' p = some (.lst (trefs ts)) → TT3 H' ts → Tr (netsOf qs) r → ts.map (·.2) = named (nmsOf qs) r → ts.length ≤ 5000 → Q (.ref p) H') ∧ ((netsOf qs).sum ≠ 0 → ∀ H', Ex H H' → E (.ref fU) none H')
/-- who has to get, and how far they are served -/
structure Get (l : List Int) (gs : List Nat) (s : Nat) : Prop where
  sorted : gs.Pairwise (· < ·)
  zero : ∀ t g, t < s → gs[t]? = some g → l[g]? = some 0
  pos : ∀ t g, s ≤ t → gs[t]? = some g → ∃ y, l[g]? = some y ∧ 0 < y
  rest : ∀ i z, i ∉ gs → l[i]? = some z → z ≤ 0
theorem Get.next {l : List Int} {gs : List Nat} {s k : Nat} {x : Int} (G : Get l gs s) (hx : l[k]? = some x) (nx : x < 0) (hs : l.sum = 0) : ∃ g y, gs[s]? = some g ∧ l[g]? = some y ∧ 0 < y ∧ (∀ i z, i < g → l[i]? = some z → z ≤ 0) ∧ k ≠ g ∧ k ∉ gs := by
  obtain ⟨j, y, hy, py⟩ := some_pos hx nx hs
  have hj : j ∈ gs := by
    by_cases h : j ∈ gs
    · exact h
    · have := G.rest j y h hy
      omega
  obtain ⟨t, ht⟩ := List.mem_iff_getElem?.mp hj
  have hst : s ≤ t := by
    by_cases h : t < s
    · have := G.zero t j h ht
      rw [hy] at this
      have := Option.some.inj this
      omega
    · omega
  have hsl : s < gs.length := by
    have := (List.getElem?_eq_some_iff.mp ht).1
    omega
  have hg := List.getElem?_eq_getElem hsl
  obtain ⟨y', hy', py'⟩ := G.pos s _ (Nat.le_refl _) hg
  have hk : k ∉ gs := fun hk => by
    obtain ⟨u, hu⟩ := List.mem_iff_getElem?.mp hk
    by_cases h : u < s
    · have := G.zero u k h hu
      rw [hx] at this
      have := Option.some.inj this
      omega
    · obtain ⟨z, hz, pz⟩ := G.pos u k (by omega) hu
      rw [hx] at hz
      have := Option.some.inj hz
      omega
  refine ⟨gs[s], y', hg, hy', py', fun i z hi hz => ?_, fun e => hk (e ▸ List.getElem_mem hsl), hk⟩
  by_cases hig : i ∈ gs
  · obtain ⟨u, hu⟩ := List.mem_iff_getElem?.mp hig
    by_cases h : u < s
    · have := G.zero u i h hu
      rw [hz] at this
      have := Option.some.inj this
      omega
    · have hul := (List.getElem?_eq_some_iff.mp hu)
      obtain ⟨hul, hue⟩ := hul
      have hle : gs[s] ≤ i := by
        by_cases e : u = s
        · subst e
          omega
        · have := List.pairwise_iff_getElem.mp G.sorted s u hsl hul (by omega)
          omega
      omega
  · exact G.rest i z hig hz
theorem Get.step {l : List Int} {gs : List Nat} {s k g : Nat} {x y c : Int} (G : Get l gs s) (hx : l[k]? = some x) (hy : l[g]? = some y) (hg : gs[s]? = some g) (hkg : k ≠ g) (hk : k ∉ gs) (h1 : x + c ≤ 0) (h2 : 0 ≤ y - c) (s' : Nat) (hs' : s' = if y - c = 0 then s + 1 else s) : Get ((l.set k (x + c)).set g (y - c)) gs s' := by
  have hget : ∀ i, i ≠ g → i ≠ k → ((l.set k (x + c)).set g (y - c))[i]? = l[i]? := fun i h1 h2 => by rw [set_get_ne _ (fun e => h1 e.symm), set_get_ne _ (fun e => h2 e.symm)]
  have hgg : ((l.set k (x + c)).set g (y - c))[g]? = some (y - c) := set_get (x := y) (by rw [set_get_ne _ hkg]; exact hy) _
  have hkk : ((l.set k (x + c)).set g (y - c))[k]? = some (x + c) := by rw [set_get_ne _ (fun e => hkg e.symm), set_get hx]
  have uniq : ∀ t, gs[t]? = some g → t = s := fun t ht => by
    obtain ⟨l1, e1⟩ := List.getElem?_eq_some_iff.mp ht
    obtain ⟨l2, e2⟩ := List.getElem?_eq_some_iff.mp hg
    rcases Nat.lt_trichotomy t s with h | h | h
    · have := List.pairwise_iff_getElem.mp G.sorted t s l1 l2 h
      omega
    · exact h
    · have := List.pairwise_iff_getElem.mp G.sorted s t l2 l1 h
      omega
  refine ⟨G.sorted, fun t i ht hi => ?_, fun t i ht hi => ?_, fun i z hi hz => ?_⟩
  · have hik : i ≠ k := fun e => hk (e ▸ List.mem_of_getElem? hi)
    by_cases e : i = g
    · subst e
      have := uniq t hi
      subst this
      rw [hgg]
      by_cases h0 : y - c = 0
      · rw [h0]
      · rw [hs', if_neg h0] at ht
        omega
    · rw [hget i e hik]
      refine G.zero t i ?_ hi
      by_cases h0 : y - c = 0
      · rw [hs', if_pos h0] at ht
        by_cases e2 : t = s
        · subst e2
          rw [hg] at hi
          exact absurd (Option.some.inj hi).symm e
        · omega
      · rw [hs', if_neg h0] at ht
        exact ht
  · have hik : i ≠ k := fun e => hk (e ▸ List.mem_of_getElem? hi)
    by_cases e : i = g
    · subst e
      have := uniq t hi
      subst this
      by_cases h0 : y - c = 0
      · rw [hs', if_pos h0] at ht
        omega
      · exact ⟨_, hgg, by omega⟩
    · rw [hget i e hik]
      refine G.pos t i ?_ hi
      by_cases h0 : y - c = 0
      · rw [hs', if_pos h0] at ht
        omega
      · rw [hs', if_neg h0] at ht
        exact ht
  · by_cases e : i = k
    · subst e
      rw [hkk] at hz
      have := Option.some.inj hz
      omega
    · have hig : i ≠ g := fun e2 => hi (e2 ▸ List.mem_of_getElem? hg)
      rw [hget i hig e] at hz
      exact G.rest i z hi hz
theorem Get.start (l : List Int) : Get l ((List.range l.length).filter fun i => match l[i]? with | some z => decide (0 < z) | none => false) 0 := by
  refine ⟨List.Pairwise.filter _ List.pairwise_lt_range, fun t g ht => by omega, fun t g _ hg => ?_, fun i z hi hz => ?_⟩
  · have hm := List.mem_of_getElem? hg
    obtain ⟨h1, h2⟩ := List.mem_filter.mp hm
    have hl := List.mem_range.mp h1
    rw [List.getElem?_eq_getElem hl] at h2 ⊢
    exact ⟨_, rfl, of_decide_eq_true h2⟩
  · by_cases h : 0 < z
    · refine absurd (List.mem_filter.mpr ⟨List.mem_range.mpr (List.getElem?_eq_some_iff.mp hz).1, ?_⟩) hi
      rw [hz]
      exact decide_eq_true h
    · omega
def gsOf (l : List Int) : List Nat := (List.range l.length).filter fun i => match l[i]? with | some z => decide (0 < z) | none => false
end

end Su
namespace Su
theorem int_at {ns : List Int} {i : Nat} {x : V} (h : (ns.map V.int)[i]? = some x) : ∃ c, x = .int c ∧ ns[i]? = some c := by
  rw [List.getElem?_map] at h
  cases hc : ns[i]? with
  | none => rw [hc] at h; cases h
  | some c => rw [hc] at h; exact ⟨c, (Option.some.inj h).symm, rfl⟩
theorem given_ints' (l : List Int) : given l.length (fun _ => true) (fun i => .int (l.getD i 0)) = l.map V.int := by
  apply List.ext_getElem?
  intro i
  unfold given
  rw [List.filter_eq_self.mpr (fun _ _ => rfl), List.getElem?_map, List.getElem?_map]
  by_cases hi : i < l.length
  · rw [List.getElem?_range hi, List.getElem?_eq_getElem hi]
    show some (V.int (l.getD i 0)) = some (V.int l[i])
    rw [List.getD_eq_getElem?_getD, List.getElem?_eq_getElem hi]
    rfl
  · rw [List.getElem?_eq_none (by rw [List.length_range]; omega), List.getElem?_eq_none (by omega)]
    rfl

end Su
namespace Su
section
variable {P : Program} {w : World} {K : PySem.W.Frag} {mg : Str → Option Value} {base : Heap}
theorem ev_sumL {σ : L2.St} {H : Hp} {ta : TE} {l : Addr} {ns : List Int} (ha : Ev ta σ H (.ref l)) (hl : SqL K H l (ns.map V.int)) : Ev (tCB (rSum K) (tCons ta tNil)) σ H (.int ns.sum) := fun H1 e Q q =>
  ha H1 e _ fun H2 e2 => ⟨l, ns, rfl, ex_l (e.trans e2) hl, q H2 e2⟩
theorem at_ints {l : List Int} {k : Nat} {x : Int} (h : l[k]? = some x) : atI (l.map V.int) (k : Int) = some (.int x) := atI_nat (by rw [List.getElem?_map, h]; rfl)
theorem gs_len (l : List Int) : (gsOf l).length ≤ l.length := by
  have h : (gsOf l).length ≤ (List.range l.length).length := List.length_filter_le _ _
  rw [List.length_range] at h
  exact h
theorem gs_given (l : List Int) : given l.length (fun i => match l[i]? with | some z => decide (0 < z) | none => false) (fun i => .int (i : Nat)) = (gsOf l).map fun i : Nat => V.int (i : Int) := rfl
theorem map_nat_int (gs : List Nat) : (gs.map fun i : Nat => V.int (i : Int)) = (gs.map fun i : Nat => (i : Int)).map V.int := by rw [List.map_map]; rfl
/-- the state within the walk over the payers -/
def TrI (H0 : Hp) (qs : List Net) (a lf gt tl' : Addr) (gs : List Nat) (k b : Nat) (l : List Int) (s : Nat) (H : Hp) : Prop := Ex H0 H ∧ H lf = some (.lst (l.map V.int)) ∧ H gt = some (.lst ((gs.map fun i : Nat => (i : Int)).map V.int)) ∧ l.length = qs.length ∧ l.sum = 0 ∧ Get l gs s ∧ (∀ (i : Nat) (z : Int), i < k → l[i]? = some z → 0 ≤ z) ∧
  ∃ (ts : List Trn) (r : List (Nat × Nat × Int)), H tl' = some (.lst (trefs ts)) ∧ TT3 H ts ∧ ts.map (·.2) = named (nmsOf qs) r ∧ (∀ r', Tr l r' → Tr (netsOf qs) (r ++ r')) ∧ ts.length ≤ s + b ∧ s ≤ gs.length
theorem TrI.ex {H0 H H' : Hp} {qs : List Net} {a lf gt tl' : Addr} {gs : List Nat} {k b : Nat} {l : List Int} {s : Nat} (h : TrI H0 qs a lf gt tl' gs k b l s H) (e : Ex H H') : TrI H0 qs a lf gt tl' gs k b l s H' := by
  obtain ⟨h1, h2, h3, h4, h5, h6, h7, ts, r, h8, h9, h10, h11, h12⟩ := h
  exact ⟨h1.trans e, ex_g e h2, ex_g e h3, h4, h5, h6, h7, ts, r, ex_g e h8, h9.ex e, h10, h11, h12⟩
theorem okx_transfers {f : Addr} {fd : FuncData} {k : Nat} (F : Fun K "transfers" "transfers" s_transfers f fd) (T : Top K mg) : FnOk P w K mg base (L2.CX P w) (k + 1) f fd ["nets"] (spTransfers K T.f_Uneven) := by
  have nd := sc_transfers.nd
  refine F.okX sc_transfers (fun vs H Q E h => ?_) (fun cdv A outer s H vs Q E hr h => ?_)
  · obtain ⟨a, qs, rfl, _⟩ := h
    rfl
  · obtain ⟨a, qs, rfl, hS, hT, hn, q, qx⟩ := h
    refine ⟨_, (pss_cons (ps_setLc (i := 3) (own := [("name", 1), ("net", 2)]) (g := gTup K 2 (gCons (gName 1) (gCons (gName 2) gNil))) (tt := tYes) rfl nd rfl rfl (sw_true rfl rfl rfl (by decide +kernel)) (pi_list (pv 0)) (blkOk_by (own := [("name", 1), ("net", 2)]) (N := Su.N_transfers) (sc := defScope s_transfers) (by decide +kernel)) (fun _ _ _ _ _ => (pg_tup rfl (pgs_cons (pg_name (i := 1) nd rfl (.inl rfl)) (pgs_cons (pg_name (i := 2) nd rfl (.inl rfl)) pgs_nil)))) (fun _ _ _ _ _ => pts_nil) (fun _ _ _ _ _ => (pv 2)))
      (pss_cons (ps_if (pt_cmpR op_ne (pe_callB (cr_sum rfl) (by rfl) T.m_sum (by decide +kernel) (pa_cons (pv 3) pa_nil)) pe_int (nomark _))
        (pss_one (ps_raise rfl (takes_of rfl rfl rfl rfl) (pmk_own0 PySem.F.excBase_ValueError T.x_Uneven T.m_Uneven T.kp_Uneven (raises_own T.sb_Uneven T.ty_Uneven) (by rfl))))
        pss_nil)
      (pss_cons (ps_setLc (i := 4) (own := [("at", 10), ("net", 2)]) (g := gTup K 2 (gCons (gName 10) (gCons (gName 2) gNil))) (tt := _) rfl nd rfl rfl (sw_true rfl rfl rfl (by decide +kernel)) (pi_enum (by rfl) T.m_enumerate (pa_cons (pv 3) pa_nil)) (blkOk_by (own := [("at", 10), ("net", 2)]) (N := Su.N_transfers) (sc := defScope s_transfers) (by decide +kernel)) (fun _ _ _ _ _ => (pg_tup rfl (pgs_cons (pg_name (i := 10) nd rfl (.inl rfl)) (pgs_cons (pg_name (i := 2) nd rfl (.inl rfl)) pgs_nil)))) (fun _ _ _ _ _ => (pts_one (pt_cmpR op_gt (pv 2) pe_int (nomark _)))) (fun _ _ _ _ _ => (pv 10)))
      (pss_cons (ps_set (i := 5) nd rfl (.inl rfl) pe_int)
      (pss_cons (ps_set (i := 6) nd rfl (.inl rfl) (pe_lst pa_nil))
      (pss_cons (ps_for (passes_of rfl) rfl (pi_enum (by rfl) T.m_enumerate (pa_cons (pv 0) pa_nil)) (pg_tup rfl (pgs_cons (pg_name (i := 7) nd rfl (.inl rfl)) (pgs_cons (pg_tup rfl (pgs_cons (pg_name (i := 1) nd rfl (.inl rfl)) (pgs_cons (pg_name (i := 2) nd rfl (.inl rfl)) pgs_nil))) pgs_nil)))
        (pss_one (ps_while (passes_of rfl) (pt_cmpR op_lt (pe_ix ix_list (pv 3) (pv 7) (fun _ _ => rfl)) pe_int (nomark _))
            (pss_cons (ps_set (i := 8) nd rfl (.inl rfl) (pe_ix ix_list (pv 4) (pv 5) (fun _ _ => rfl)))
              (pss_cons (ps_set (i := 9) nd rfl (.inl rfl) (pe_callB (call_min2 rfl) (by rfl) T.m_min (by decide +kernel) (pa_cons (pe_un un_neg (pe_ix ix_list (pv 3) (pv 7) (fun _ _ => rfl))) (pa_cons (pe_ix ix_list (pv 3) (pv 8) (fun _ _ => rfl)) pa_nil))))
              (pss_cons (ps_expr (pe_bm PySem.F.plainAttrs_list PySem.F.slot_list_append PySem.F.type_list_append mt_append (pv 6) (pa_cons (pe_tup (pa_cons (pv 1) (pa_cons (pe_ix ix_tup (pe_ix ix_list (pv 0) (pv 8) (fun _ _ => rfl)) pe_int (fun _ _ => rfl)) (pa_cons (pv 9) pa_nil)))) pa_nil)))
              (pss_cons (ps_augS (pv 3) (pv 7) get_list (pv 9) ip_add set_list)
              (pss_cons (ps_augS (pv 3) (pv 8) get_list (pv 9) ip_sub set_list)
              (pss_one (ps_if (pt_cmpR op_eq (pe_ix ix_list (pv 3) (pv 8) (fun _ _ => rfl)) pe_int (nomark _))
                (pss_one (ps_aug (i := 5) nd rfl (.inl rfl) pe_int ip_add))
                pss_nil))))))))))
      (pss_one (ps_ret (pv 6))))))))), ?_⟩
    -- left
    refine q_asgL (xs := (netsOf qs).map V.int) ?_ fun lf H1 hlf e1 h1 => ?_
    · have hg : (netsOf qs).map V.int = given (nrefs qs).length (fun _ => true) fun i => .int ((netsOf qs).getD i 0) := by
        rw [nrefs_len]
        have := given_ints' (netsOf qs)
        unfold netsOf at this ⊢
        rw [List.length_map] at this
        exact this.symm
      rw [hg]
      refine el_lcLg _ _ (by walk_at "ev") hS (by rw [nrefs_len]; omega) fun i x Hb eb gx => ?_
      obtain ⟨q', gq, rfl⟩ := nrefs_at gx
      have hq := hT.ex eb q' (List.mem_of_getElem? gq)
      refine ⟨_, tg_two (st_of hq) tg_name tg_name, rfl, et_yes, fun _ => ?_⟩
      refine ev_is (ev_var rfl) ?_
      unfold netsOf
      rw [List.getD_eq_getElem?_getD, List.getElem?_map, gq]
      rfl
    have hS1 := ex_l e1 hS
    have hT1 := hT.ex e1
    refine q_when (b := !decide ((netsOf qs).sum = 0)) ?_ (fun hb H2 e2 => ?_) (fun hb H2 e2 => ?_)
    · refine et_test (ev_op (ev_sumL (ev_var rfl) (sq_of h1)) ev_c ?_)
      exact fun H1 e Q q => ⟨rfl, by
        have : decide (V.int (netsOf qs).sum = V.int 0) = decide ((netsOf qs).sum = 0) := by
          by_cases h : (netsOf qs).sum = 0
          · rw [h]
            rfl
          · rw [decide_eq_false h, decide_eq_false (fun z => h (V.int.inj z))]
        rw [this]
        exact q H1 (Ex.refl H1)⟩
    · refine qx (fun z => ?_) H2 (e1.trans e2)
      rw [z] at hb
      exact absurd hb (by decide)
    have hsum : (netsOf qs).sum = 0 := by
      by_cases h : (netsOf qs).sum = 0
      · exact h
      · rw [decide_eq_false h] at hb
        cases hb
    have q := q hsum
    have h1 := ex_g e2 h1
    have hnl : (netsOf qs).length = qs.length := List.length_map _
    -- getters
    refine q_asgL (xs := ((gsOf (netsOf qs)).map fun i : Nat => (i : Int)).map V.int) ?_ fun gt H3 hgt e3 h3 => ?_
    · rw [← map_nat_int, ← gs_given]
      have hlen : (netsOf qs).length = ((netsOf qs).map V.int).length := (List.length_map _).symm
      rw [hlen]
      refine el_lcE _ _ (by walk_at "ea") (sq_of h1) (by rw [List.length_map, hnl]; omega) fun i x Tt Hb eb gx hTt => ?_
      obtain ⟨c, rfl, hc⟩ := int_at gx
      refine ⟨_, tg_two (st_of hTt) tg_name tg_name, rfl, et_is (by walk_at "et") ?_, fun _ => by walk_at "ev"⟩
      rw [hc]
    have h1 := ex_g e3 h1
    refine q_asg (by walk_at "ev") fun H4 e4 => ?_
    refine q_asgL (el_lst ea_nil (by decide)) fun tl' H5 htl e5 h5 => ?_
    have h1 := ex_g e5 (ex_g e4 h1)
    have h3 := ex_g e5 (ex_g e4 h3)
    have ex5 := (((e1.trans e2).trans e3).trans e4).trans e5
    have nlf : H lf = none := hlf
    have hlt : lf ≠ tl' := ne_of_none (ex_g e4 (ex_g e3 (ex_g e2 (show H1 lf = some _ by assumption)))) htl
    have hgtl : gt ≠ tl' := ne_of_none (ex_g e4 (show H3 gt = some _ by assumption)) htl
    have hlg : lf ≠ gt := ne_of_none (ex_g e2 (show H1 lf = some _ by assumption)) hgt
    have hl0 : H tl' = none := fresh_back (((e1.trans e2).trans e3).trans e4) htl
    have hg0 : H gt = none := fresh_back (e1.trans e2) hgt
    refine s_forE (xs := nrefs qs) (by walk_at "ea") (ex_l ex5 hS) (fun k σ' H' => ∃ (l : List Int) (s : Nat) (y1 y2 y7 y8 y9 y10 : Option V), σ' = [some (.ref a), y1, y2, some (.ref lf), some (.ref gt), some (.int (s : Int)), some (.ref tl'), y7, y8, y9, y10] ∧ TrI H qs a lf gt tl' (gsOf (netsOf qs)) k k l s H') ?_ ?_ ?_ ?_
    · intro H6 e6
      refine ⟨netsOf qs, 0, none, none, none, none, none, none, rfl, ex5.trans e6, ex_g e6 h1, ex_g e6 h3, hnl, hsum, Get.start _, fun i z hi => by omega, [], [], ex_g e6 h5, TT3.nil, rfl, fun r' hr' => hr', by show 0 ≤ _; omega, Nat.zero_le _⟩
    · rintro k σ' H' _ ⟨l, s, y1, y2, y7, y8, y9, y10, rfl, hI⟩
      exact ex_l hI.1 hS
    · rintro k x Tt σ' Hc hx ⟨l, s, y1, y2, y7, y8, y9, y10, rfl, hI⟩ nT
      obtain ⟨q', gq, rfl⟩ := nrefs_at hx
      have hk : k < qs.length := (List.getElem?_eq_some_iff.mp gq).1
      have eT : Ex Hc (upd Hc Tt (.tup [.int (k : Nat), .ref q'.1])) := Ex.new nT
      have hq := (hT.ex (hI.1.trans eT)) q' (List.mem_of_getElem? gq)
      refine ⟨_, tg_two (st_of upd_same) tg_name (tg_two (st_of hq) tg_name tg_name), ?_⟩
      have hI := hI.ex eT
      generalize upd Hc Tt (.tup [.int (k : Nat), .ref q'.1]) = H6 at hI ⊢
      obtain ⟨x, hx⟩ : ∃ x, l[k]? = some x := ⟨_, List.getElem?_eq_getElem (by have := hI.2.2.2.1; omega)⟩
      refine s_while (fun m σ' H' => ∃ (l : List Int) (s : Nat) (x : Int) (y8 y9 : Option V), σ' = [some (.ref a), some (.str q'.2.1), some (.int q'.2.2), some (.ref lf), some (.ref gt), some (.int (s : Int)), some (.ref tl'), some (.int (k : Nat)), y8, y9, y10] ∧ l[k]? = some x ∧
        m = 2 * ((gsOf (netsOf qs)).length - s) + (if x < 0 then 1 else 0) ∧ TrI H qs a lf gt tl' (gsOf (netsOf qs)) k (k + (if x < 0 then 0 else 1)) l s H') _ ⟨l, s, x, y8, y9, rfl, hx, rfl, ?_⟩ ?_
      · obtain ⟨g1, g2, g3, g4, g5, g6, g7, ts, r, g8, g9, g10, g11, g12, g13⟩ := hI
        exact ⟨g1, g2, g3, g4, g5, g6, g7, ts, r, g8, g9, g10, g11, by omega, g13⟩
      clear hI hx
      rintro m σ' H7 ⟨l, s, x, y8, y9, rfl, hx, rfl, hI⟩
      obtain ⟨g1, g2, g3, g4, g5, g6, g7, ts, r, g8, g9, g10, g11, g12, g13⟩ := hI
      refine ⟨decide (x < 0), ?_, fun hb H8 e8 => ?_, fun hb H8 e8 => ?_⟩
      · exact et_test (ev_op (ev_op (ev_var rfl) (ev_var rfl) (rv_ixL (sq_of g2) (at_ints hx))) ev_c rv_I0)
      · have nx : x < 0 := of_decide_eq_true hb
        rw [if_pos nx] at g12 ⊢
        obtain ⟨g, y, hg, hy, py, hfst, hkg, hkn⟩ := g6.next hx nx g5
        have hgl : g < qs.length := by
          have := (List.getElem?_eq_some_iff.mp hy).1
          omega
        have hsl : s < (gsOf (netsOf qs)).length := (List.getElem?_eq_some_iff.mp hg).1
        have hgat : ((gsOf (netsOf qs)).map fun i : Nat => (i : Int))[s]? = some (g : Int) := by rw [List.getElem?_map, hg]; rfl
        have hgsl : (gsOf (netsOf qs)).length ≤ qs.length := by
          have := gs_len (netsOf qs)
          rw [hnl] at this
          exact this
        have hqg := List.getElem?_eq_getElem hgl
        generalize qs[g] = qg at hqg
        refine ⟨fun σ2 H2 => ∃ m', m' < 2 * ((gsOf (netsOf qs)).length - s) + 1 ∧ ∃ (l : List Int) (s : Nat) (x : Int) (y8 y9 : Option V), σ2 = [some (.ref a), some (.str q'.2.1), some (.int q'.2.2), some (.ref lf), some (.ref gt), some (.int (s : Int)), some (.ref tl'), some (.int (k : Nat)), y8, y9, y10] ∧ l[k]? = some x ∧
          m' = 2 * ((gsOf (netsOf qs)).length - s) + (if x < 0 then 1 else 0) ∧ TrI H qs a lf gt tl' (gsOf (netsOf qs)) k (k + (if x < 0 then 0 else 1)) l s H2, fun _ _ h => h, ?_⟩
        have g2 := ex_g e8 g2
        have g3 := ex_g e8 g3
        have g8 := ex_g e8 g8
        have g9 := g9.ex e8
        refine q_asg (ev_op (ev_var rfl) (ev_var rfl) (rv_ixL (sq_of g3) (at_ints hgat))) fun H9 e9 => ?_
        have g2 := ex_g e9 g2
        have g3 := ex_g e9 g3
        have g8 := ex_g e9 g8
        have g9 := g9.ex e9
        refine q_asg (ev_cb (ea_cons (ev_un (ev_op (ev_var rfl) (ev_var rfl) (rv_ixL (sq_of g2) (at_ints hx))) ru_neg) (ea_cons (ev_op (ev_var rfl) (ev_var rfl) (rv_ixL (sq_of g2) (at_ints hy))) ea_nil)) rc_min) fun H10 e10 => ?_
        have g2 := ex_g e10 g2
        have g3 := ex_g e10 g3
        have g8 := ex_g e10 g8
        have g9 := g9.ex e10
        obtain ⟨c, hc, c0, c1, c2⟩ : ∃ c, (if y < -x then y else -x) = c ∧ 0 < c ∧ c ≤ y ∧ c ≤ -x := ⟨_, rfl, by split <;> omega, by split <;> omega, by split <;> omega⟩
        rw [hc]
        have hSx := ex_l (((g1.trans e8).trans e9).trans e10) hS
        have hTx := hT.ex (((g1.trans e8).trans e9).trans e10)
        have hqgx := hTx qg (List.mem_of_getElem? hqg)
        -- told.append((name, nets[getter][0], coins))
        refine q_appU (ys := [.str q'.2.1, .str qg.2.1, .int c]) g8 (ev_var rfl) (eu_tup (ea_cons (ev_var rfl) (ea_cons (ev_op (ev_op (ev_var rfl) (ev_var rfl) (rv_ixL hSx (atI_nat (by unfold nrefs; rw [List.getElem?_map, hqg]; rfl)))) ev_c (rv_ixT (st_of hqgx) rfl)) (ea_cons (ev_var rfl) ea_nil))) (by show 3 ≤ 100000; decide)) (by show (trefs ts).length < 100000; unfold trefs; rw [List.length_map]; omega) fun tp H11 htp e11 h11 => ?_
        have g2 := ex_g e11 g2
        have g3 := ex_g e11 g3
        have g8 := ex_g e11 g8
        have g9 := g9.ex e11
        have hne : tp ≠ tl' := ne_of h11 g8 (fun z => nomatch z)
        have ht12 : (upd H11 tl' (.lst (trefs ts ++ [.ref tp]))) tl' = some (.lst (trefs (ts ++ [(tp, q'.2.1, qg.2.1, c)]))) := by
          rw [upd_same]
          unfold trefs
          rw [List.map_append]
          rfl
        have hl12 : (upd H11 tl' (.lst (trefs ts ++ [.ref tp]))) lf = some (.lst (l.map V.int)) := by rw [upd_ne hlt]; exact g2
        have hg12 : (upd H11 tl' (.lst (trefs ts ++ [.ref tp]))) gt = some (.lst (((gsOf (netsOf qs)).map fun i : Nat => (i : Int)).map V.int)) := by rw [upd_ne hgtl]; exact g3
        have hT12 : TT3 (upd H11 tl' (.lst (trefs ts ++ [.ref tp]))) (ts ++ [(tp, q'.2.1, qg.2.1, c)]) := TT3.add (g9.upd g8) (by rw [upd_ne hne]; exact h11)
        have ex12 : Ex H (upd H11 tl' (.lst (trefs ts ++ [.ref tp]))) := ex_up ((((g1.trans e8).trans e9).trans e10).trans e11) hl0
        generalize upd H11 tl' (.lst (trefs ts ++ [.ref tp])) = H12 at ht12 hl12 hg12 hT12 ex12 ⊢
        -- left[payer] += coins
        refine q_augL (j := k) hl12 (ev_var rfl) (ev_var rfl) rfl (by rw [List.getElem?_map, hx]; rfl) (ev_var rfl) fun H13 e13 => ?_
        have ex13 : Ex H (upd H13 lf (.lst ((l.map V.int).set k (.int (x + c))))) := ex_up (ex12.trans e13) hlf
        have hl14 : (upd H13 lf (.lst ((l.map V.int).set k (.int (x + c))))) lf = some (.lst ((l.set k (x + c)).map V.int)) := by rw [upd_same, List.map_set]
        have hg14 : (upd H13 lf (.lst ((l.map V.int).set k (.int (x + c))))) gt = some (.lst (((gsOf (netsOf qs)).map fun i : Nat => (i : Int)).map V.int)) := by rw [upd_ne hlg.symm]; exact ex_g e13 hg12
        have ht14 : (upd H13 lf (.lst ((l.map V.int).set k (.int (x + c))))) tl' = some (.lst (trefs (ts ++ [(tp, q'.2.1, qg.2.1, c)]))) := by rw [upd_ne hlt.symm]; exact ex_g e13 ht12
        have hT14 := (hT12.ex e13).upd (ys := (l.map V.int).set k (.int (x + c))) (ex_g e13 hl12)
        generalize upd H13 lf (.lst ((l.map V.int).set k (.int (x + c)))) = H14 at ex13 hl14 hg14 ht14 hT14 ⊢
        have hy2 : (l.set k (x + c))[g]? = some y := by rw [set_get_ne _ hkg]; exact hy
        -- left[getter] -= coins
        refine q_augL (j := g) hl14 (ev_var rfl) (ev_var rfl) rfl (by rw [List.getElem?_map, hy2]; rfl) (ev_var rfl) fun H15 e15 => ?_
        have ex15 : Ex H (upd H15 lf (.lst (((l.set k (x + c)).map V.int).set g (.int (y - c))))) := ex_up (ex13.trans e15) hlf
        have hl16 : (upd H15 lf (.lst (((l.set k (x + c)).map V.int).set g (.int (y - c))))) lf = some (.lst (((l.set k (x + c)).set g (y - c)).map V.int)) := by
          rw [upd_same]
          simp only [List.map_set]
        have hg16 : (upd H15 lf (.lst (((l.set k (x + c)).map V.int).set g (.int (y - c))))) gt = some (.lst (((gsOf (netsOf qs)).map fun i : Nat => (i : Int)).map V.int)) := by rw [upd_ne hlg.symm]; exact ex_g e15 hg14
        have ht16 : (upd H15 lf (.lst (((l.set k (x + c)).map V.int).set g (.int (y - c))))) tl' = some (.lst (trefs (ts ++ [(tp, q'.2.1, qg.2.1, c)]))) := by rw [upd_ne hlt.symm]; exact ex_g e15 ht14
        have hT16 := (hT14.ex e15).upd (ys := ((l.set k (x + c)).map V.int).set g (.int (y - c))) (ex_g e15 hl14)
        generalize upd H15 lf (.lst (((l.set k (x + c)).map V.int).set g (.int (y - c)))) = H16 at ex15 hl16 hg16 ht16 hT16 ⊢
        have hyz : ((l.set k (x + c)).set g (y - c))[g]? = some (y - c) := set_get hy2 _
        have hxz : ((l.set k (x + c)).set g (y - c))[k]? = some (x + c) := by rw [set_get_ne _ hkg.symm, set_get hx]
        have hst : stepT l k g c ((l.set k (x + c)).set g (y - c)) := ⟨x, y, hx, hy, nx, py, g7, hfst, hc.symm, rfl⟩
        have base : ∀ s', s' = (if y - c = 0 then s + 1 else s) → ts.length + 1 ≤ s' + (k + (if x + c < 0 then 0 else 1)) → s' ≤ (gsOf (netsOf qs)).length → ∀ H17, Ex H16 H17 → TrI H qs a lf gt tl' (gsOf (netsOf qs)) k (k + (if x + c < 0 then 0 else 1)) ((l.set k (x + c)).set g (y - c)) s' H17 := by
          intro s' hs' hb1 hb2 H17 e17
          refine ⟨ex15.trans e17, ex_g e17 hl16, ex_g e17 hg16, by rw [List.length_set, List.length_set, g4], ?_, g6.step hx hy hg hkg hkn (by omega) (by omega) s' hs', ?_, ts ++ [(tp, q'.2.1, qg.2.1, c)], r ++ [(k, g, c)], ex_g e17 ht16, hT16.ex e17, ?_, fun r' hr' => ?_, by rw [List.length_append]; exact hb1, hb2⟩
          · rw [set_sum hy2, set_sum hx, g5]
            omega
          · intro i z hi hz
            by_cases eg : i = g
            · subst eg
              rw [hyz] at hz
              have := Option.some.inj hz
              omega
            · rw [set_get_ne _ (fun e => eg e.symm), set_get_ne _ (by omega)] at hz
              exact g7 i z hi hz
          · rw [List.map_append, g10]
            unfold named
            rw [List.map_append]
            congr 1
            have n1 : (nmsOf qs).getD k Str.empty = q'.2.1 := by unfold nmsOf; rw [List.getD_eq_getElem?_getD, List.getElem?_map, gq]; rfl
            have n2 : (nmsOf qs).getD g Str.empty = qg.2.1 := by unfold nmsOf; rw [List.getD_eq_getElem?_getD, List.getElem?_map, hqg]; rfl
            show [(q'.2.1, qg.2.1, c)] = [((nmsOf qs).getD k Str.empty, (nmsOf qs).getD g Str.empty, c)]
            rw [n1, n2]
          · rw [List.append_assoc]
            exact g11 _ (.step hst hr')
        refine s_when (b := decide (y - c = 0)) ?_ (fun hb H17 e17 => ?_) (fun hb H17 e17 => ?_)
        · refine et_test (ev_op (ev_op (ev_var rfl) (ev_var rfl) (rv_ixL (sq_of hl16) (at_ints hyz))) ev_c ?_)
          exact fun H1 e Q q => ⟨rfl, by
            have : decide (V.int (y - c) = V.int 0) = decide (y - c = 0) := by
              by_cases h : y - c = 0
              · rw [h]
                rfl
              · rw [decide_eq_false h, decide_eq_false (fun z => h (V.int.inj z))]
            rw [this]
            exact q H1 (Ex.refl H1)⟩
        · have h0 : y - c = 0 := of_decide_eq_true hb
          refine s_aug (a := (s : Int)) (b := 1) rfl ev_c fun H18 e18 => ?_
          refine ⟨2 * ((gsOf (netsOf qs)).length - (s + 1)) + (if x + c < 0 then 1 else 0), by split <;> omega, (l.set k (x + c)).set g (y - c), s + 1, x + c, _, _, rfl, hxz, rfl, base (s + 1) (by rw [if_pos h0]) (by split <;> omega) (by omega) H18 (e17.trans e18)⟩
        · have h0 : ¬ y - c = 0 := of_decide_eq_false hb
          have hx0 : x + c = 0 := by
            rw [← hc] at h0 c1 ⊢
            revert h0
            split <;> omega
          refine ⟨2 * ((gsOf (netsOf qs)).length - s) + (if x + c < 0 then 1 else 0), by rw [if_neg (by omega)]; omega, (l.set k (x + c)).set g (y - c), s, x + c, _, _, rfl, hxz, rfl, base s (by rw [if_neg h0]) (by rw [if_neg (by omega)]; omega) (by omega) H17 e17⟩
      · have nx : ¬ x < 0 := of_decide_eq_false hb
        rw [if_neg nx] at g12
        refine ⟨l, s, _, _, _, _, _, _, rfl, g1.trans e8, ex_g e8 g2, ex_g e8 g3, g4, g5, g6, fun i z hi hz => ?_, ts, r, ex_g e8 g8, g9.ex e8, g10, g11, by omega, g13⟩
        by_cases e : i = k
        · subst e
          rw [hx] at hz
          have := Option.some.inj hz
          omega
        · exact g7 i z (by omega) hz
    · rintro σ' H' ⟨l, s, y1, y2, y7, y8, y9, y10, rfl, g1, g2, g3, g4, g5, g6, g7, ts, r, g8, g9, g10, g11, g12, g13⟩
      dsimp only
      refine s_ret (ev_var rfl) fun H6 e6 => ?_
      have hgsl : (gsOf (netsOf qs)).length ≤ qs.length := by
        have := gs_len (netsOf qs)
        rw [hnl] at this
        exact this
      rw [nrefs_len] at g7 g12
      have hd := g11 [] (.done (.inl fun i z hz => g7 i z (by have := (List.getElem?_eq_some_iff.mp hz).1; omega) hz))
      rw [List.append_nil] at hd
      exact q ts r H6 tl' hl0 (g1.trans e6) (ex_g e6 g8) (g9.ex e6) hd g10 (by omega)
end

end Su
namespace Su
theorem lay_of_shaped {d : PyData} (h : SeqAt.shaped d = true) : d.canLay0 = true := (Bool.and_eq_true_iff.mp h).1
/-- two lists of windows that are alike -/
theorem rv_neD {K : PySem.W.Frag} {H : Hp} {x y : V} {d : PyData} (h1 : Dp K H x d) (h2 : Dp K H y d) (hs : SeqAt.shaped d = true) : RV (rNeD K) x y H (.bl false) := fun H1 e Q q =>
  ⟨d, d, dp_ex e h1, dp_ex e h2, hs, hs, by rw [SeqAt.eqv_refl d (lay_of_shaped hs)]; exact q H1 (Ex.refl H1)⟩
theorem rv_eqD {K : PySem.W.Frag} {H : Hp} {x y : V} {d : PyData} (h1 : Dp K H x d) (h2 : Dp K H y d) (hs : SeqAt.shaped d = true) : RV (rEqD K) x y H (.bl true) := fun H1 e Q q =>
  ⟨d, d, dp_ex e h1, dp_ex e h2, hs, hs, by rw [SeqAt.eqv_refl d (lay_of_shaped hs)]; exact q H1 (Ex.refl H1)⟩
def intD (ns : List Int) : PyData := .list (ns.map .int)
theorem dp_ints {K : PySem.W.Frag} {H : Hp} {l : Addr} {ns : List Int} (hl : SqL K H l (ns.map V.int)) : Dp K H (.ref l) (intD ns) := .lst hl (dpa_of V.int PyData.int ns fun i _ => .int i)
theorem pl_ints {ns : List Int} (h : ns.length ≤ 1000) : PlD 1 (intD ns) := .list (by rw [List.length_map]; exact h) fun x hx => by
  obtain ⟨i, _, rfl⟩ := List.mem_map.mp hx
  exact .int i
theorem shaped_ints (ns : List Int) : SeqAt.shaped (intD ns) = true := by
  have h1 : ∀ l : List Int, PyData.canLayAll0 (l.map .int) = true := by
    intro l
    induction l with
    | nil => simp [PyData.canLayAll0]
    | cons a r ih => simp [PyData.canLayAll0, PyData.canLay0, ih]
  have h2 : ∀ l : List Int, PyData.depthAll (l.map .int) = 0 := by
    intro l
    induction l with
    | nil => simp [PyData.depthAll]
    | cons a r ih => simp [PyData.depthAll, PyData.depth, ih]
  unfold SeqAt.shaped intD
  rw [Bool.and_eq_true]
  refine ⟨?_, ?_⟩
  · simp only [PyData.canLay0]
    exact h1 ns
  · simp only [PyData.depth]
    have := h2 ns
    exact decide_eq_true (by omega)

end Su
namespace Su
/-! ### more ways of calls -/
theorem s_forE1 {K : PySem.W.Frag} {te : TE} {g : TG} {tb : TS} {D : Ends} {σ : L2.St} {H : Hp} {Pc : Addr → Hp → Prop} (hcall : ∀ Q : VK, (∀ p H1, Pc p H1 → Q (.ref p) H1) → te σ H Q) (k : ∀ p H1, Pc p H1 → tFor (iEnum K (tCons (tC (.ref p)) tNil)) g tb D σ H1) :
    tFor (iEnum K (tCons te tNil)) g tb D σ H := hcall _ fun p H1 h => k p H1 h
theorem s_tryw1 {sp : Sp} {W : WX} {te : TE} {xs : List V} {σ : L2.St} {H : Hp} {i : Nat} {D : Ends} (h : EvL te σ H xs) (hs : ∀ p H1, H p = none → Ex H H1 → H1 p = some (.lst xs) → sp [.ref p] H1 (fun v H2 => D.nx (σ.set i (some v)) H2) (WE W σ)) : tAsg (tCallS sp (WE W) (tCons te tNil)) (gName i) D σ H :=
  h H (Ex.refl H) _ fun p H1 hp e1 h1 => hs p H1 hp e1 h1
theorem rc_isi_lst {K : PySem.W.Frag} {H : Hp} {p : Addr} {xs : List V} {n : String} {b : Bool} (h : H p = some (.lst xs)) (hk : kitB "list" n = some b) : RC (rIsi K) [.ref p, .ty n] H (.bl b) :=
  fun H1 e _ q => ⟨.ref p, .ty n, .type "list", .type n, b, rfl, .ty n, .base (.lst (e _ _ h)), kit_ty hk, q H1 (Ex.refl H1)⟩
theorem int_eq {i j : Int} : decide (V.int i = V.int j) = decide (i = j) := by
  by_cases h : i = j
  · rw [h, decide_eq_true rfl, decide_eq_true rfl]
  · rw [decide_eq_false h, decide_eq_false (fun z => h (V.int.inj z))]
theorem q_callQ {sp : Sp} {dvs vs : List V} {E : XK} {ta : TA} {σ : L2.St} {H : Hp} {i : Nat} {D : Ends} {tz : TS} (h : EvA ta σ H vs) (k : ∀ H1, Ex H H1 → sp (vs ++ dvs) H1 (fun v H2 => tz D (σ.set i (some v)) H2) E) : tSeq (tAsg (tCall sp dvs E ta) (gName i)) tz D σ H :=
  h H (Ex.refl H) _ fun H1 e1 => k H1 e1

end Su
namespace Su
/-! ### lists of nets, of transfers, as data -/
def netD (qs : List Net) : PyData := .list (qs.map fun q => .tuple [.str q.2.1, .int q.2.2])
theorem dp_net {K : PySem.W.Frag} {H : Hp} {l : Addr} {qs : List Net} (hl : SqL K H l (nrefs qs)) (ht : TN H qs) : Dp K H (.ref l) (netD qs) :=
  .lst hl (dpa_of (fun q : Net => V.ref q.1) (fun q => .tuple [.str q.2.1, .int q.2.2]) qs fun q hq => .tup (st_of (ht q hq)) (.cons (.str _) (.cons (.int _) .nil)))
theorem shaped_net (qs : List Net) (h : ∀ q ∈ qs, PyData.strOk q.2.1 = true) : SeqAt.shaped (netD qs) = true := by
  have h1 : ∀ l : List Net, (∀ q ∈ l, PyData.strOk q.2.1 = true) → PyData.canLayAll0 (l.map fun q => .tuple [.str q.2.1, .int q.2.2]) = true := by
    intro l
    induction l with
    | nil => intro _; simp [PyData.canLayAll0]
    | cons a r ih =>
      intro hl
      have ha := hl a List.mem_cons_self
      have hr := ih fun q hq => hl q (List.mem_cons_of_mem _ hq)
      simp [PyData.canLayAll0, PyData.canLay0, hr, ha]
  have h2 : ∀ l : List Net, PyData.depthAll (l.map fun q => .tuple [.str q.2.1, .int q.2.2]) ≤ 1 := by
    intro l
    induction l with
    | nil => simp [PyData.depthAll]
    | cons a r ih =>
      simp only [List.map_cons, PyData.depthAll, PyData.depth]
      omega
  unfold SeqAt.shaped netD
  rw [Bool.and_eq_true]
  refine ⟨?_, ?_⟩
  · simp only [PyData.canLay0]
    exact h1 qs h
  · simp only [PyData.depth]
    have := h2 qs
    exact decide_eq_true (by omega)
def trnD (l : List (Str × Str × Int)) : PyData := .list (l.map fun t => .tuple [.str t.1, .str t.2.1, .int t.2.2])
theorem dp_trn {K : PySem.W.Frag} {H : Hp} {l : Addr} {ts : List Trn} {tv : List (Str × Str × Int)} (hl : SqL K H l (trefs ts)) (ht : TT3 H ts) (hv : ts.map (·.2) = tv) : Dp K H (.ref l) (trnD tv) := by
  subst hv
  unfold trnD
  rw [List.map_map]
  exact .lst hl (dpa_of (fun t : Trn => V.ref t.1) (fun t => .tuple [.str t.2.1, .str t.2.2.1, .int t.2.2.2]) ts fun t h => .tup (st_of (ht t h)) (.cons (.str _) (.cons (.str _) (.cons (.int _) .nil))))
theorem pl_trn {l : List (Str × Str × Int)} (h : l.length ≤ 1000) : PlD 2 (trnD l) := .list (by rw [List.length_map]; exact h) fun x hx => by
  obtain ⟨t, _, rfl⟩ := List.mem_map.mp hx
  refine .tuple (by show 3 ≤ 1000; decide) fun y hy => ?_
  rcases List.mem_cons.mp hy with rfl | hy
  · exact .str _
  rcases List.mem_cons.mp hy with rfl | hy
  · exact .str _
  obtain rfl := List.mem_singleton.mp hy
  exact .int _

end Su
namespace Su
/-! ### the law's own settling -/
theorem filter_first {n : Nat} {f : Nat → Bool} (h : 0 < ((List.range n).filter f).length) : ∃ i, ((List.range n).filter f)[0]? = some i ∧ f i = true ∧ i < n ∧ ∀ k, k < i → f k = false := by
  have h0 := List.getElem?_eq_getElem h
  refine ⟨_, h0, ?_⟩
  have hm := List.mem_of_getElem? h0
  obtain ⟨h1, h2⟩ := List.mem_filter.mp hm
  refine ⟨h2, List.mem_range.mp h1, fun k hk => ?_⟩
  have hs : ((List.range n).filter f).Pairwise (· < ·) := List.Pairwise.filter _ List.pairwise_lt_range
  by_cases hf : f k = true
  · have hkm : k ∈ (List.range n).filter f := List.mem_filter.mpr ⟨List.mem_range.mpr (by have := List.mem_range.mp h1; omega), hf⟩
    obtain ⟨t, ht⟩ := List.mem_iff_getElem?.mp hkm
    obtain ⟨hl, he⟩ := List.getElem?_eq_some_iff.mp ht
    by_cases e : t = 0
    · subst e
      omega
    · have := List.pairwise_iff_getElem.mp hs 0 t h hl (by omega)
      omega
  · exact Bool.eq_false_iff.mpr hf
theorem filter_none {n : Nat} {f : Nat → Bool} (h : ¬ 0 < ((List.range n).filter f).length) : ∀ k, k < n → f k = false := fun k hk => by
  by_cases hf : f k = true
  · have hkm : k ∈ (List.range n).filter f := List.mem_filter.mpr ⟨List.mem_range.mpr hk, hf⟩
    have := List.length_pos_of_mem hkm
    omega
  · exact Bool.eq_false_iff.mpr hf
/-- how many are not nought -/
def nz : List Int → Nat
  | [] => 0
  | a :: r => (if a = 0 then 0 else 1) + nz r
theorem nz_le : ∀ l : List Int, nz l ≤ l.length
  | [] => Nat.zero_le _
  | a :: r => by
    have := nz_le r
    unfold nz
    rw [List.length_cons]
    split <;> omega
theorem nz_set : ∀ {l : List Int} {i : Nat} {x : Int} (y : Int), l[i]? = some x → nz (l.set i y) + (if x = 0 then 0 else 1) = nz l + (if y = 0 then 0 else 1)
  | [], _, _, _, h => by simp at h
  | a :: r, 0, x, y, h => by
    obtain rfl : a = x := Option.some.inj h
    show (if y = 0 then 0 else 1) + nz r + _ = (if a = 0 then 0 else 1) + nz r + _
    omega
  | a :: r, i + 1, x, y, h => by
    have := nz_set (l := r) (i := i) (x := x) y h
    show (if a = 0 then 0 else 1) + nz (r.set i y) + _ = (if a = 0 then 0 else 1) + nz r + _
    omega
theorem nz_zero : ∀ {l : List Int}, nz l = 0 → ∀ (i : Nat) (z : Int), l[i]? = some z → z = 0
  | [], _, _, _, h => by simp at h
  | a :: r, h, 0, z, hz => by
    obtain rfl : a = z := Option.some.inj hz
    unfold nz at h
    by_cases e : a = 0
    · exact e
    · rw [if_neg e] at h
      omega
  | a :: r, h, i + 1, z, hz => by
    unfold nz at h
    exact nz_zero (l := r) (by omega) i z hz
theorem nz_step {l l' : List Int} {i j : Nat} {c : Int} (h : stepT l i j c l') : nz l' < nz l := by
  obtain ⟨x, y, hx, hy, nx, py, f1, f2, hc, rfl⟩ := h
  have hij : i ≠ j := fun e => by
    subst e
    rw [hx] at hy
    have := Option.some.inj hy
    omega
  have hy2 : (l.set i (x + c))[j]? = some y := by rw [set_get_ne _ hij]; exact hy
  have n1 := nz_set (x + c) hx
  have n2 := nz_set (y - c) hy2
  rw [if_neg (by omega)] at n1 n2
  have : x + c = 0 ∨ y - c = 0 := by
    rw [hc]
    split <;> omega
  rcases this with h0 | h0
  · rw [if_pos h0] at n1
    revert n2
    split <;> omega
  · rw [if_pos h0] at n2
    revert n1
    split <;> omega
section
variable {P : Program} {w : World} {K : PySem.W.Frag} {mg : Str → Option Value} {base : Heap}
def spPaid (K : PySem.W.Frag) : Sp := fun vs H Q _ => ∃ (a : Addr) (qs : List Net), vs = [.ref a] ∧ SqL K H a (nrefs qs) ∧ TN H qs ∧ qs.length ≤ 1000 ∧
  ∀ (ts : List Trn) r H' p, H p = none → Ex H H' → H' p = some (.lst (trefs ts)) → TT3 H' ts → Tr (netsOf qs) r → ts.map (·.2) = named (nmsOf qs) r → ts.length ≤ qs.length → Q (.ref p) H'
def ltB (l : List Int) (i : Nat) : Bool := match l[i]? with | some z => decide (z < 0) | none => false
def gtB (l : List Int) (i : Nat) : Bool := match l[i]? with | some z => decide (0 < z) | none => false
theorem el_ats {σ : L2.St} {H : Hp} {ta : TA} {tt : TT} {te : TE} {j : Nat} {vs : List Nat} {n : Nat} (f : Nat → Bool) (h : EvA ta σ H [.int (n : Int)]) (hn : n ≤ 40000) (hw : ∀ x, wipe ((wipe σ vs).set j (some x)) vs = wipe σ vs)
    (ht : ∀ (i : Nat) H1, Ex H H1 → i < n → EvT tt ((wipe σ vs).set j (some (.int (i : Int)))) H1 (f i)) (he : ∀ (i : Nat) H1, Ev te ((wipe σ vs).set j (some (.int (i : Int)))) H1 (.int (i : Nat))) :
    EvL (tLc (iRng1 ta) (gName j) tt te vs) σ H ((((List.range n).filter f).map fun i : Nat => (i : Int)).map V.int) := by
  have e : ((((List.range n).filter f).map fun i : Nat => (i : Int)).map V.int) = given ((n : Int)).toNat f fun i => .int (i : Nat) := by
    rw [Int.toNat_natCast, List.map_map]
    rfl
  rw [e]
  exact el_lcR1 f _ h (by omega) hw (fun i H1 e1 hi => ht i H1 e1 (by omega)) fun i H1 _ _ _ => he i H1
theorem ok__law_paid {f : Addr} {fd : FuncData} {k : Nat} (F : Fun K "_law_paid" "_law_paid" s__law_paid f fd) (T : Top K mg) : FnOk P w K mg base CX0 (k + 1) f fd ["_law_nets"] (spPaid K) := by
  have nd := sc__law_paid.nd
  refine F.ok sc__law_paid (fun vs H Q E h => ?_) (fun cdv A outer s H vs Q E hr h => ?_)
  · obtain ⟨a, qs, rfl, _⟩ := h
    rfl
  · obtain ⟨a, qs, rfl, hS, hT, hn, q⟩ := h
    refine ⟨_, (pss_cons (ps_set (i := 1) nd rfl (.inr rfl) (pe_lc (own := [("_law_name", 7), ("_law_net", 8)]) (g := gTup K 2 (gCons (gName 7) (gCons (gName 8) gNil))) (tt := tYes) rfl nd (pi_list (pv 0)) (blkOk_by (own := [("_law_name", 7), ("_law_net", 8)]) (N := Su.N__law_paid) (sc := defScope s__law_paid) (by decide +kernel)) (fun _ _ _ _ _ => (pg_tup rfl (pgs_cons (pg_name (i := 7) nd rfl (.inl rfl)) (pgs_cons (pg_name (i := 8) nd rfl (.inl rfl)) pgs_nil)))) (fun _ _ _ _ _ => pts_nil) (fun _ _ _ _ _ => (pv 8))))
      (pss_cons (ps_set (i := 2) nd rfl (.inl rfl) (pe_lst pa_nil))
      (pss_cons (ps_for PassesOwn.never rfl (pi_range1 rfl T.m_range (pa_cons (pe_callB call_len_seq (by rfl) T.m_len PySem.boot_len (pa_cons (pv 0) pa_nil)) pa_nil)) (pg_name (i := 3) nd rfl (.inl rfl))
        (pss_cons (ps_setLc (i := 4) (own := [("_law_at", 9)]) (g := gName 9) (tt := _) rfl nd rfl rfl (sw_true rfl rfl rfl (by decide +kernel)) (pi_range1 rfl T.m_range (pa_cons (pe_callB call_len_seq (by rfl) T.m_len PySem.boot_len (pa_cons (pv 1) pa_nil)) pa_nil)) (blkOk_by (own := [("_law_at", 9)]) (N := Su.N__law_paid) (sc := defScope s__law_paid) (by decide +kernel)) (fun _ _ _ _ _ => (pg_name (i := 9) nd rfl (.inl rfl))) (fun _ _ _ _ _ => (pts_one (pt_cmpR op_lt (pe_ix (ix_listK (K := K) rfl) (pv 1) (pv 9) (fun _ _ => rfl)) pe_int (nomark _)))) (fun _ _ _ _ _ => (pv 9)))
          (pss_cons (ps_setLc (i := 5) (own := [("_law_at", 9)]) (g := gName 9) (tt := _) rfl nd rfl rfl (sw_true rfl rfl rfl (by decide +kernel)) (pi_range1 rfl T.m_range (pa_cons (pe_callB call_len_seq (by rfl) T.m_len PySem.boot_len (pa_cons (pv 1) pa_nil)) pa_nil)) (blkOk_by (own := [("_law_at", 9)]) (N := Su.N__law_paid) (sc := defScope s__law_paid) (by decide +kernel)) (fun _ _ _ _ _ => (pg_name (i := 9) nd rfl (.inl rfl))) (fun _ _ _ _ _ => (pts_one (pt_cmpR op_gt (pe_ix (ix_listK (K := K) rfl) (pv 1) (pv 9) (fun _ _ => rfl)) pe_int (nomark _)))) (fun _ _ _ _ _ => (pv 9)))
          (pss_one (ps_if (PW.pt (pw_and (pt_cmpR op_gt (pe_callB call_len_seq (by rfl) T.m_len PySem.boot_len (pa_cons (pv 4) pa_nil)) pe_int (nomark _)) (pw_and1 (pt_cmpR op_gt (pe_callB call_len_seq (by rfl) T.m_len PySem.boot_len (pa_cons (pv 5) pa_nil)) pe_int (nomark _)))))
            (pss_cons (ps_set (i := 6) nd rfl (.inl rfl) (pe_callB (call_min2 rfl) (by rfl) T.m_min (by decide +kernel) (pa_cons (pe_un un_neg (pe_ix ix_list (pv 1) (pe_ix ix_list (pv 4) pe_int (fun _ _ => rfl)) (fun _ _ => rfl))) (pa_cons (pe_ix ix_list (pv 1) (pe_ix ix_list (pv 5) pe_int (fun _ _ => rfl)) (fun _ _ => rfl)) pa_nil))))
              (pss_cons (ps_expr (pe_bm PySem.F.plainAttrs_list PySem.F.slot_list_append PySem.F.type_list_append mt_append (pv 2) (pa_cons (pe_tup (pa_cons (pe_ix ix_tup (pe_ix ix_list (pv 0) (pe_ix ix_list (pv 4) pe_int (fun _ _ => rfl)) (fun _ _ => rfl)) pe_int (fun _ _ => rfl)) (pa_cons (pe_ix ix_tup (pe_ix ix_list (pv 0) (pe_ix ix_list (pv 5) pe_int (fun _ _ => rfl)) (fun _ _ => rfl)) pe_int (fun _ _ => rfl)) (pa_cons (pv 6) pa_nil)))) pa_nil)))
              (pss_cons (ps_augS (pv 1) (pe_ix ix_list (pv 4) pe_int (fun _ _ => rfl)) get_list (pv 6) ip_add set_list)
              (pss_one (ps_augS (pv 1) (pe_ix ix_list (pv 5) pe_int (fun _ _ => rfl)) get_list (pv 6) ip_sub set_list)))))
            pss_nil)))))
      (pss_one (ps_ret (pv 2)))))), ?_⟩
    have hnl : (netsOf qs).length = qs.length := List.length_map _
    refine q_asgL (xs := (netsOf qs).map V.int) ?_ fun lf H1 hlf e1 h1 => ?_
    · have hg : (netsOf qs).map V.int = given (nrefs qs).length (fun _ => true) fun i => .int ((netsOf qs).getD i 0) := by
        rw [nrefs_len, ← hnl]
        exact (given_ints' (netsOf qs)).symm
      rw [hg]
      refine el_lcLg _ _ (by walk_at "ev") hS (by rw [nrefs_len]; omega) fun i x Hb eb gx => ?_
      obtain ⟨q', gq, rfl⟩ := nrefs_at gx
      have hq := hT.ex eb q' (List.mem_of_getElem? gq)
      refine ⟨_, tg_two (st_of hq) tg_name tg_name, rfl, et_yes, fun _ => ?_⟩
      refine ev_is (ev_var rfl) ?_
      unfold netsOf
      rw [List.getD_eq_getElem?_getD, List.getElem?_map, gq]
      rfl
    refine q_asgL (el_lst ea_nil (by decide)) fun rp H2 hrp e2 h2 => ?_
    have h1 := ex_g e2 h1
    have hr0 : H rp = none := fresh_back e1 hrp
    have hlr : lf ≠ rp := ne_of_none (show H1 lf = some _ by assumption) hrp
    have ex2 := e1.trans e2
    refine q_forR1 (n := (qs.length : Int)) (ea_cons (ev_is (ev_cb (ea_cons (ev_var rfl) ea_nil) (rc_len (.inl (ex_l ex2 hS)))) (by rw [nrefs_len])) ea_nil) (by omega) (fun i σ' H' => ∃ (l : List Int) (ts : List Trn) (r : List (Nat × Nat × Int)) (y3 y4 y5 y6 y7 y8 y9 : Option V), σ' = [some (.ref a), some (.ref lf), some (.ref rp), y3, y4, y5, y6, y7, y8, y9] ∧ Ex H H' ∧ H' lf = some (.lst (l.map V.int)) ∧ l.length = qs.length ∧
      H' rp = some (.lst (trefs ts)) ∧ TT3 H' ts ∧ ts.map (·.2) = named (nmsOf qs) r ∧ (∀ r', Tr l r' → Tr (netsOf qs) (r ++ r')) ∧ ts.length ≤ i ∧ (doneT l ∨ nz l + i ≤ qs.length)) ?_ ?_ ?_
    · intro H3 e3
      exact ⟨netsOf qs, [], [], none, none, none, none, none, none, none, rfl, ex2.trans e3, ex_g e3 h1, hnl, ex_g e3 h2, TT3.nil, rfl, fun r' h => h, Nat.le_refl _, .inr (by have := nz_le (netsOf qs); omega)⟩
    · rintro i σ' H' hi ⟨l, ts, r, y3, y4, y5, y6, y7, y8, y9, rfl, ex, hlf', hl, hrp', ht, hv, hTr, hts, hz⟩
      refine q_asgL (el_ats (n := l.length) (ltB l) (ea_cons (ev_is (ev_len (ev_var rfl) (sq_of hlf')) (by rw [List.length_map])) ea_nil) (by omega) (fun _ => rfl) (fun j H1 e1 hj => ?_) (fun j H1 => ev_var rfl)) fun lk H3 hlk e3 h3 => ?_
      · refine et_is (et_test (ev_op (ev_op (ev_var rfl) (ev_var rfl) (rv_ixL (sq_of (ex_g e1 hlf')) (at_ints (List.getElem?_eq_getElem hj)))) ev_c rv_I0)) ?_
        unfold ltB
        rw [List.getElem?_eq_getElem hj]
      have hlf' := ex_g e3 hlf'
      refine q_asgL (el_ats (n := l.length) (gtB l) (ea_cons (ev_is (ev_len (ev_var rfl) (sq_of hlf')) (by rw [List.length_map])) ea_nil) (by omega) (fun _ => rfl) (fun j H1 e1 hj => ?_) (fun j H1 => ev_var rfl)) fun gp H4 hgp e4 h4 => ?_
      · refine et_is (et_test (ev_op (ev_op (ev_var rfl) (ev_var rfl) (rv_ixL (sq_of (ex_g e1 hlf')) (at_ints (List.getElem?_eq_getElem hj)))) ev_c rv_I0)) ?_
        unfold gtB
        rw [List.getElem?_eq_getElem hj]
      have hlf' := ex_g e4 hlf'
      have h3 := ex_g e4 h3
      have hrp' := ex_g e4 (ex_g e3 hrp')
      have ht := (ht.ex e3).ex e4
      have ex4 := (ex.trans e3).trans e4
      refine s_when (et_and (et_test (ev_op (ev_len (ev_var rfl) (sq_of h3)) ev_c rv_I0)) fun _ => et_test (ev_op (ev_len (ev_var rfl) (sq_of h4)) ev_c rv_I0)) (fun hb H5 e5 => ?_) (fun hb H5 e5 => ?_)
      · simp only [List.length_map, Bool.and_eq_true, decide_eq_true_eq] at hb
        obtain ⟨i1, gi1, fi1, li1, fst1⟩ := filter_first (n := l.length) (f := ltB l) (by omega)
        obtain ⟨j1, gj1, fj1, lj1, fst2⟩ := filter_first (n := l.length) (f := gtB l) (by omega)
        obtain ⟨x, hx⟩ : ∃ x, l[i1]? = some x := ⟨_, List.getElem?_eq_getElem li1⟩
        obtain ⟨y, hy⟩ : ∃ y, l[j1]? = some y := ⟨_, List.getElem?_eq_getElem lj1⟩
        have nx : x < 0 := by unfold ltB at fi1; rw [hx] at fi1; exact of_decide_eq_true fi1
        have py : 0 < y := by unfold gtB at fj1; rw [hy] at fj1; exact of_decide_eq_true fj1
        have hij : i1 ≠ j1 := fun e => by
          subst e
          rw [hx] at hy
          have := Option.some.inj hy
          omega
        have gi1' : (((List.range l.length).filter (ltB l)).map fun i : Nat => (i : Int))[0]? = some (i1 : Int) := by rw [List.getElem?_map, gi1]; rfl
        have gj1' : (((List.range l.length).filter (gtB l)).map fun i : Nat => (i : Int))[0]? = some (j1 : Int) := by rw [List.getElem?_map, gj1]; rfl
        have q1 := List.getElem?_eq_getElem (show i1 < qs.length by omega)
        have q2 := List.getElem?_eq_getElem (show j1 < qs.length by omega)
        generalize qs[i1] = qa at q1
        generalize qs[j1] = qb at q2
        have hlf' := ex_g e5 hlf'
        have h3 := ex_g e5 h3
        have h4 := ex_g e5 h4
        have hrp' := ex_g e5 hrp'
        have ht := ht.ex e5
        have evi : ∀ {σ : L2.St} {Hx : Hp} {ta : TE}, Ev ta σ Hx (.ref lk) → Hx lk = some (.lst ((((List.range l.length).filter (ltB l)).map fun i : Nat => (i : Int)).map V.int)) → Ev (tOp (rIxL K) ta (tC (.int 0))) σ Hx (.int (i1 : Int)) := fun h hh => ev_op h ev_c (rv_ixL (sq_of hh) (at_ints (k := 0) gi1'))
        have evj : ∀ {σ : L2.St} {Hx : Hp} {ta : TE}, Ev ta σ Hx (.ref gp) → Hx gp = some (.lst ((((List.range l.length).filter (gtB l)).map fun i : Nat => (i : Int)).map V.int)) → Ev (tOp (rIxL K) ta (tC (.int 0))) σ Hx (.int (j1 : Int)) := fun h hh => ev_op h ev_c (rv_ixL (sq_of hh) (at_ints (k := 0) gj1'))
        refine q_asg (ev_cb (ea_cons (ev_un (ev_op (ev_var rfl) (evi (ev_var rfl) h3) (rv_ixL (sq_of hlf') (at_ints hx))) ru_neg) (ea_cons (ev_op (ev_var rfl) (evj (ev_var rfl) h4) (rv_ixL (sq_of hlf') (at_ints hy))) ea_nil)) rc_min) fun H6 e6 => ?_
        have hlf' := ex_g e6 hlf'
        have h3 := ex_g e6 h3
        have h4 := ex_g e6 h4
        have hrp' := ex_g e6 hrp'
        have ht := ht.ex e6
        obtain ⟨c, hc⟩ : ∃ c, (if y < -x then y else -x) = c := ⟨_, rfl⟩
        rw [hc]
        have ex6 := (ex4.trans e5).trans e6
        have hSx := ex_l ex6 hS
        have hTx := hT.ex ex6
        have hqa := hTx qa (List.mem_of_getElem? q1)
        have hqb := hTx qb (List.mem_of_getElem? q2)
        refine q_appU (ys := [.str qa.2.1, .str qb.2.1, .int c]) hrp' (ev_var rfl) (eu_tup (ea_cons (ev_op (ev_op (ev_var rfl) (evi (ev_var rfl) h3) (rv_ixL hSx (atI_nat (by unfold nrefs; rw [List.getElem?_map, q1]; rfl)))) ev_c (rv_ixT (st_of hqa) rfl)) (ea_cons (ev_op (ev_op (ev_var rfl) (evj (ev_var rfl) h4) (rv_ixL hSx (atI_nat (by unfold nrefs; rw [List.getElem?_map, q2]; rfl)))) ev_c (rv_ixT (st_of hqb) rfl)) (ea_cons (ev_var rfl) ea_nil))) (by show 3 ≤ 100000; decide)) (by show (trefs ts).length < 100000; unfold trefs; rw [List.length_map]; omega) fun tp H7 htp e7 h7 => ?_
        have hlf' := ex_g e7 hlf'
        have h3 := ex_g e7 h3
        have h4 := ex_g e7 h4
        have hrp' := ex_g e7 hrp'
        have ht := ht.ex e7
        have hne : tp ≠ rp := ne_of h7 hrp' (fun z => nomatch z)
        have hlkr : lk ≠ rp := (ne_of_none (show H' rp = some _ by assumption) hlk).symm
        have hgpr : gp ≠ rp := (ne_of_none (ex_g e3 (show H' rp = some _ by assumption)) hgp).symm
        have hlkl : lk ≠ lf := (ne_of_none (show H' lf = some _ by assumption) hlk).symm
        have hgpl : gp ≠ lf := (ne_of_none (ex_g e3 (show H' lf = some _ by assumption)) hgp).symm
        have ht12 : (upd H7 rp (.lst (trefs ts ++ [.ref tp]))) rp = some (.lst (trefs (ts ++ [(tp, qa.2.1, qb.2.1, c)]))) := by
          rw [upd_same]
          unfold trefs
          rw [List.map_append]
          rfl
        have hl12 : (upd H7 rp (.lst (trefs ts ++ [.ref tp]))) lf = some (.lst (l.map V.int)) := by rw [upd_ne hlr]; exact hlf'
        have hk12 : (upd H7 rp (.lst (trefs ts ++ [.ref tp]))) lk = some (.lst ((((List.range l.length).filter (ltB l)).map fun i : Nat => (i : Int)).map V.int)) := by rw [upd_ne hlkr]; exact h3
        have hg12 : (upd H7 rp (.lst (trefs ts ++ [.ref tp]))) gp = some (.lst ((((List.range l.length).filter (gtB l)).map fun i : Nat => (i : Int)).map V.int)) := by rw [upd_ne hgpr]; exact h4
        have hT12 : TT3 (upd H7 rp (.lst (trefs ts ++ [.ref tp]))) (ts ++ [(tp, qa.2.1, qb.2.1, c)]) := TT3.add (ht.upd hrp') (by rw [upd_ne hne]; exact h7)
        have ex12 : Ex H (upd H7 rp (.lst (trefs ts ++ [.ref tp]))) := ex_up (ex6.trans e7) hr0
        generalize upd H7 rp (.lst (trefs ts ++ [.ref tp])) = H12 at ht12 hl12 hk12 hg12 hT12 ex12 ⊢
        refine q_augL (j := i1) hl12 (ev_var rfl) (evi (ev_var rfl) hk12) rfl (by rw [List.getElem?_map, hx]; rfl) (ev_var rfl) fun H13 e13 => ?_
        have ex13 : Ex H (upd H13 lf (.lst ((l.map V.int).set i1 (.int (x + c))))) := ex_up (ex12.trans e13) hlf
        have hl14 : (upd H13 lf (.lst ((l.map V.int).set i1 (.int (x + c))))) lf = some (.lst ((l.set i1 (x + c)).map V.int)) := by rw [upd_same, List.map_set]
        have hg14 : (upd H13 lf (.lst ((l.map V.int).set i1 (.int (x + c))))) gp = some (.lst ((((List.range l.length).filter (gtB l)).map fun i : Nat => (i : Int)).map V.int)) := by rw [upd_ne hgpl]; exact ex_g e13 hg12
        have ht14 : (upd H13 lf (.lst ((l.map V.int).set i1 (.int (x + c))))) rp = some (.lst (trefs (ts ++ [(tp, qa.2.1, qb.2.1, c)]))) := by rw [upd_ne hlr.symm]; exact ex_g e13 ht12
        have hT14 := (hT12.ex e13).upd (ys := (l.map V.int).set i1 (.int (x + c))) (ex_g e13 hl12)
        generalize upd H13 lf (.lst ((l.map V.int).set i1 (.int (x + c)))) = H14 at ex13 hl14 hg14 ht14 hT14 ⊢
        have hy2 : (l.set i1 (x + c))[j1]? = some y := by rw [set_get_ne _ hij]; exact hy
        refine st_lastAugL (j := j1) hl14 (ev_var rfl) (evj (ev_var rfl) hg14) rfl (by rw [List.getElem?_map, hy2]; rfl) (ev_var rfl) fun H15 e15 => ?_
        have hst : stepT l i1 j1 c ((l.set i1 (x + c)).set j1 (y - c)) := by
          refine ⟨x, y, hx, hy, nx, py, fun k z hk hz => ?_, fun k z hk hz => ?_, hc.symm, rfl⟩
          · have := fst1 k hk
            unfold ltB at this
            rw [hz] at this
            have := of_decide_eq_false this
            omega
          · have := fst2 k hk
            unfold gtB at this
            rw [hz] at this
            have := of_decide_eq_false this
            omega
        refine ⟨(l.set i1 (x + c)).set j1 (y - c), ts ++ [(tp, qa.2.1, qb.2.1, c)], r ++ [(i1, j1, c)], _, _, _, _, _, _, _, rfl, ex_up (ex13.trans e15) hlf, by rw [upd_same]; simp only [List.map_set], by rw [List.length_set, List.length_set, hl], by rw [upd_ne hlr.symm]; exact ex_g e15 ht14, (hT14.ex e15).upd (ex_g e15 hl14), ?_, fun r' hr' => ?_, by rw [List.length_append]; show ts.length + 1 ≤ _; omega, ?_⟩
        · rw [List.map_append, hv]
          unfold named
          rw [List.map_append]
          congr 1
          have n1 : (nmsOf qs).getD i1 Str.empty = qa.2.1 := by unfold nmsOf; rw [List.getD_eq_getElem?_getD, List.getElem?_map, q1]; rfl
          have n2 : (nmsOf qs).getD j1 Str.empty = qb.2.1 := by unfold nmsOf; rw [List.getD_eq_getElem?_getD, List.getElem?_map, q2]; rfl
          show [(qa.2.1, qb.2.1, c)] = [((nmsOf qs).getD i1 Str.empty, (nmsOf qs).getD j1 Str.empty, c)]
          rw [n1, n2]
        · rw [List.append_assoc]
          exact hTr _ (.step hst hr')
        · refine .inr ?_
          have := nz_step hst
          rcases hz with hz | hz
          · exact absurd hz (step_not_done hst)
          · omega
      · refine ⟨l, ts, r, _, _, _, _, _, _, _, rfl, ex4.trans e5, ex_g e5 hlf', hl, ex_g e5 hrp', ht.ex e5, hv, hTr, by omega, .inl ?_⟩
        simp only [List.length_map, Bool.and_eq_false_iff, decide_eq_false_iff_not] at hb
        rcases hb with hb | hb
        · have hn' := filter_none (n := l.length) (f := ltB l) (by omega)
          refine .inl fun i z hz => ?_
          have := hn' i (List.getElem?_eq_some_iff.mp hz).1
          unfold ltB at this
          rw [hz] at this
          have := of_decide_eq_false this
          omega
        · have hn' := filter_none (n := l.length) (f := gtB l) (by omega)
          refine .inr fun i z hz => ?_
          have := hn' i (List.getElem?_eq_some_iff.mp hz).1
          unfold gtB at this
          rw [hz] at this
          have := of_decide_eq_false this
          omega
    · rintro σ' H' ⟨l, ts, r, y3, y4, y5, y6, y7, y8, y9, rfl, ex, hlf', hl, hrp', ht, hv, hTr, hts, hz⟩
      refine s_ret (ev_var rfl) fun H3 e3 => ?_
      rw [Int.toNat_natCast] at hts hz
      have hd : doneT l := by
        rcases hz with hz | hz
        · exact hz
        · have h0 := nz_zero (l := l) (by omega)
          exact .inl fun i z hi => by rw [h0 i z hi]; omega
      have hd := hTr [] (.done hd)
      rw [List.append_nil] at hd
      exact q ts r H3 rp hr0 (ex.trans e3) (ex_g e3 hrp') (ht.ex e3) hd hv hts
end

end Su
namespace Su
section
variable {P : Program} {w : World} {K : PySem.W.Frag} {mg : Str → Option Value} {base : Heap}
def spLaw (K : PySem.W.Frag) : Sp := fun vs H Q _ => ∃ (a : Addr) (ns : List Int), vs = [.ref a] ∧ SqL K H a (ns.map V.int) ∧ ns.length ≤ 63 ∧ ∀ H', Q (.bl true) H'
theorem nets_add (qs : List Net) (q : Net) : (netsOf (qs ++ [q])).sum = (netsOf qs).sum + q.2.2 := by
  unfold netsOf
  rw [List.map_append, List.sum_append]
  show _ + ([q.2.2] : List Int).sum = _
  rw [List.sum_singleton]
theorem named_len {ns : List Str} {r : List (Nat × Nat × Int)} {ts : List Trn} (h : ts.map (·.2) = named ns r) : (named ns r).length = ts.length := by rw [← h, List.length_map]
theorem ok_law {f : Addr} {fd : FuncData} (F : Fun K "law" "law" s_law f fd) (T : Top K mg) : FnOk P w K mg base CX0 4 f fd ["_law_script"] (spLaw K) := by
  have nd := sc_law.nd
  have G__law_draws : FnOk P w K mg base CX0 1 T.f__law_draws T.fd__law_draws ["_law_script", "_law_many"] (spDraws K) := ok__law_draws T.F__law_draws T
  have G_transfers : FnOk P w K mg base (L2.CX P w) 1 T.f_transfers T.fd_transfers ["nets"] (spTransfers K T.f_Uneven) := okx_transfers T.F_transfers T
  have G__law_names : FnOk P w K mg base CX0 1 T.f__law_names T.fd__law_names ["_law_some", "_law_many"] (spNames K) := ok__law_names T.F__law_names T
  have G__law_paid : FnOk P w K mg base CX0 1 T.f__law_paid T.fd__law_paid ["_law_nets"] (spPaid K) := ok__law_paid T.F__law_paid T
  have G__law_same : FnOk P w K mg base CX0 3 T.f__law_same T.fd__law_same ["_law_told", "_law_due"] (spSame K 2) := ok__law_same T 2
  refine F.ok sc_law (fun vs H Q E h => ?_) (fun cdv A outer s H vs Q E hr h => ?_)
  · obtain ⟨a, ns, rfl, _⟩ := h
    rfl
  · obtain ⟨a, ns, rfl, hS, hlen, q⟩ := h
    refine ⟨_, (pss_cons (ps_set (i := 1) nd rfl (.inl rfl) (pe_call G__law_draws (hr.mono (by decide)) (by rfl) T.m__law_draws T.F__law_draws.kp T.b__law_draws .nil pass0 (pa_cons (pv 0) (pa_cons pe_int pa_nil))))
      (pss_cons (ps_set (i := 2) nd rfl (.inl rfl) (pe_op op_mod (pe_ix ix_list (pv 1) pe_int (fun _ _ => rfl)) pe_int))
      (pss_cut (ps_if (pt_cmpR op_eq (pe_op op_mod (pe_op op_fdiv (pe_ix ix_list (pv 1) pe_int (fun _ _ => rfl)) pe_int) pe_int) pe_int (nomark _))
        (pss_one (ps_set (i := 2) nd rfl (.inl rfl) (pe_op op_mod (pe_ix ix_list (pv 1) pe_int (fun _ _ => rfl)) pe_int)))
        pss_nil)
      (pss_cons (ps_set (i := 3) nd rfl (.inl rfl) (pe_call G__law_names (hr.mono (by decide)) (by rfl) T.m__law_names T.F__law_names.kp T.b__law_names .nil pass0 (pa_cons (pe_slice sl_list (pv 1) (po_some pe_int) po_none) (pa_cons (pv 2) pa_nil))))
      (pss_cons (ps_set (i := 4) nd rfl (.inl rfl) (pe_lst pa_nil))
      (pss_cons (ps_set (i := 5) nd rfl (.inl rfl) pe_int)
      (pss_cons (ps_for PassesOwn.never rfl (pi_enum (by rfl) T.m_enumerate (pa_cons (pv 3) pa_nil)) (pg_tup rfl (pgs_cons (pg_name (i := 6) nd rfl (.inl rfl)) (pgs_cons (pg_name (i := 7) nd rfl (.inl rfl)) pgs_nil)))
        (pss_cons (ps_set (i := 8) nd rfl (.inl rfl) (pe_ix ix_list (pv 1) (pe_op op_add pe_int (pv 6)) (fun _ _ => rfl)))
          (pss_cut (ps_if (pt_cmpR op_eq (pe_op op_mod (pe_ix ix_list (pv 1) pe_int (fun _ _ => rfl)) pe_int) pe_int (nomark _))
            (pss_one (ps_set (i := 8) nd rfl (.inl rfl) (pe_op op_sub (pe_op op_mod (pe_ix ix_list (pv 1) (pe_op op_add pe_int (pv 6)) (fun _ _ => rfl)) pe_int) pe_int)))
            pss_nil)
          (pss_cut (ps_if (pt_cmpR op_eq (pv 6) (pe_op op_sub (pv 2) pe_int) (nomark _))
            (pss_one (ps_set (i := 8) nd rfl (.inl rfl) (pe_un un_neg (pv 5))))
            pss_nil)
          (pss_cons (ps_set (i := 5) nd rfl (.inl rfl) (pe_op op_add (pv 5) (pv 8)))
          (pss_one (ps_expr (pe_bm PySem.F.plainAttrs_list PySem.F.slot_list_append PySem.F.type_list_append mt_append (pv 4) (pa_cons (pe_tup (pa_cons (pv 7) (pa_cons (pv 8) pa_nil))) pa_nil)))))))))
      (pss_cons (ps_set (i := 9) nd rfl (.inl rfl) (pe_callTy call_list_of (by rfl) T.m_list (by decide +kernel) (pa_cons (pv 4) pa_nil)))
      (pss_cons (ps_for PassesOwn.never rfl (pi_range1 rfl T.m_range (pa_cons pe_int pa_nil)) (pg_name (i := 10) nd rfl (.inl rfl))
        (pss_cons (ps_set (i := 11) nd rfl (.inl rfl) (pe_call G_transfers (hr.mono (by decide)) (by rfl) T.m_transfers T.F_transfers.kp T.b_transfers .nil passL (pa_cons (pv 9) pa_nil)))
          (pss_cons (ps_if (PW.pt (pw_or (pt_cmpR (op_neD hr.units) (pv 9) (pv 4) (nomark _)) (pw_or1 (pt_not (pt_val (pe_call G__law_same (hr.mono (by decide)) (by rfl) T.m__law_same T.F__law_same.kp T.b__law_same .nil pass0 (pa_cons (pv 11) (pa_cons (pe_call G__law_paid (hr.mono (by decide)) (by rfl) T.m__law_paid T.F__law_paid.kp T.b__law_paid .nil pass0 (pa_cons (pv 4) pa_nil)) pa_nil))))))))
            (pss_one (ps_ret pe_bl))
            pss_nil)
          (pss_one (ps_expr (pe_bm PySem.F.plainAttrs_list PySem.F.slot_list_append PySem.F.type_list_append mt_append (pv 11) (pa_cons pe_int pa_nil)))))))
      (pss_one (ps_ret pe_bl))))))))))), ?_⟩
    refine q_callN (by walk_at "ea") (spN_draws (m := 48) hS hlen (by decide)) ?_
    rintro _ p H1 ⟨rows, hR, rfl⟩ hp e1 h1
    have hl := hR.1
    have hs := sq_of (K := K) h1
    refine q_asg (by walk_at "ev") fun H2 e2 => ?_
    have hs := ex_l e2 hs
    refine q_cut (M := fun σ' H' => ∃ n : Nat, σ' = [some (.ref a), some (.ref p), some (.int (n : Int)), none, none, none, none, none, none, none, none, none] ∧ n ≤ 20 ∧ SqL K H' p (rows.map V.int)) ?_ ?_
    · refine s_when (by walk_at "et") (fun _ H3 e3 => ?_) (fun _ H3 e3 => ?_)
      · have hs := ex_l e3 hs
        refine s_asg (by walk_at "ev") fun H4 e4 => ?_
        refine ⟨(rows.getD (Int.toNat 0) 0 % 21).toNat, ?_, by omega, ex_l e4 hs⟩
        rw [Int.toNat_of_nonneg (by omega)]
        rfl
      · refine ⟨(rows.getD (Int.toNat 0) 0 % 11).toNat, ?_, by omega, ex_l e3 hs⟩
        rw [Int.toNat_of_nonneg (by omega)]
        rfl
    rintro _ H3 ⟨n, rfl, hn2, hs⟩
    have hs3 := hs
    refine s_callN1 (P := fun xs => ∃ ws : List Str, xs = ws.map V.str ∧ ws.length = n ∧ ∀ z ∈ ws, NameOk z) (el_sl (by walk_at "ev") (eo_some (by walk_at "ev")) eo_none hs) (by walk_at "ea") (fun p0 H4 e4 h4 => ?_) ?_
    · rw [show (2 : Int) = ((2 : Nat) : Int) from rfl, cut_from, ← List.map_drop] at h4
      exact fun H5 e5 Q1 q1 E1 => ⟨p0, rows.drop 2, n, rfl, sq_of (ex_g e5 h4), by rw [List.length_drop]; omega, by omega, fun x hx => hR.2.2 x (List.mem_of_mem_drop hx), fun ws H6 p1 hp1 e6 h6 hwl _ hok => q1 _ p1 H6 ⟨ws, rfl, hwl, hok⟩ hp1 e6 h6⟩
    rintro _ p0 H4 ⟨ws, rfl, hwl, hok⟩ hp0 e4 h4
    have hs := ex_l e4 hs
    dsimp only
    refine q_asgL (el_lst ea_nil (by decide)) fun np H5 hnp e5 h5 => ?_
    have h4 := ex_g e5 h4
    have hnps : p0 ≠ np := ne_of_none (show H4 p0 = some _ by assumption) hnp
    refine q_asg (by walk_at "ev") fun H6 e6 => ?_
    refine s_forE (xs := ws.map V.str) (by walk_at "ea") (sq_of (ex_g e6 h4)) (fun i σ' H' => ∃ (qs : List Net) (y6 y7 y8 : Option V), σ' = [some (.ref a), some (.ref p), some (.int (n : Int)), some (.ref p0), some (.ref np), some (.int (netsOf qs).sum), y6, y7, y8, none, none, none] ∧ Ex H4 H' ∧ H' np = some (.lst (nrefs qs)) ∧ TN H' qs ∧ qs.length = i ∧ H' p0 = some (.lst (ws.map V.str)) ∧ (i = n → (netsOf qs).sum = 0) ∧ ∀ q ∈ qs, PyData.strOk q.2.1 = true) ?_ ?_ ?_ ?_
    · intro H7 e7
      exact ⟨[], none, none, none, rfl, (e5.trans e6).trans e7, ex_g (e6.trans e7) h5, TN.nil, rfl, ex_g (e6.trans e7) h4, fun _ => rfl, fun q hq => absurd hq List.not_mem_nil⟩
    · rintro i σ' H' _ ⟨qs, y5, y6, y7, rfl, ex, _, _, _, h, _⟩
      exact sq_of h
    · rintro i x Tt σ' Hc hx ⟨qs, y5, y6, y7, rfl, ex, hnp', ht, hql, hp0', hsum, hso⟩ nT
      obtain ⟨z, hz, rfl⟩ : ∃ z, ws[i]? = some z ∧ x = .str z := by
        rw [List.getElem?_map] at hx
        cases hc : ws[i]? with
        | none => rw [hc] at hx; cases hx
        | some c => rw [hc] at hx; exact ⟨c, rfl, (Option.some.inj hx).symm⟩
      have hzok := (hok z (List.mem_of_getElem? hz)).ok
      have hi : i < n := by
        have := (List.getElem?_eq_some_iff.mp hz).1
        omega
      refine ⟨_, tg_two (st_of upd_same) tg_name tg_name, ?_⟩
      have eT : Ex Hc (upd Hc Tt (.tup [.int (i : Nat), .str z])) := Ex.new nT
      have ex := ex.trans eT
      have hnp' := ex_g eT hnp'
      have hp0' := ex_g eT hp0'
      have ht := ht.ex eT
      generalize upd Hc Tt (.tup [.int (i : Nat), .str z]) = H6 at ex hnp' hp0' ht ⊢
      have hs := ex_l (e4.trans ex) hs3
      refine q_asg (by walk_at "ev") fun H7 e7 => ?_
      have hs := ex_l e7 hs
      refine q_cut (M := fun σ' H' => ∃ net : Int, σ' = [some (.ref a), some (.ref p), some (.int (n : Int)), some (.ref p0), some (.ref np), some (.int (netsOf qs).sum), some (.int (i : Nat)), some (.str z), some (.int net), none, none, none] ∧ Ex H7 H') ?_ ?_
      · refine s_when (by walk_at "et") (fun _ H8 e8 => ?_) (fun _ H8 e8 => ?_)
        · have hs := ex_l e8 hs
          refine s_asg (by walk_at "ev") fun H9 e9 => ?_
          exact ⟨_, rfl, e8.trans e9⟩
        · exact ⟨_, rfl, e8⟩
      rintro _ H8 ⟨net, rfl, e8⟩
      refine q_cut (M := fun σ' H' => ∃ net : Int, σ' = [some (.ref a), some (.ref p), some (.int (n : Int)), some (.ref p0), some (.ref np), some (.int (netsOf qs).sum), some (.int (i : Nat)), some (.str z), some (.int net), none, none, none] ∧ Ex H8 H' ∧ (i + 1 = n → net = -(netsOf qs).sum)) ?_ ?_
      · refine s_when (et_is (by walk_at "et") int_eq) (fun hb H9 e9 => ?_) (fun hb H9 e9 => ?_)
        · refine s_asg (by walk_at "ev") fun H10 e10 => ?_
          exact ⟨_, rfl, e9.trans e10, fun _ => rfl⟩
        · have := of_decide_eq_false hb
          exact ⟨_, rfl, e9, fun h => by omega⟩
      rintro _ H9 ⟨net, rfl, e9, hlast⟩
      refine q_asg (by walk_at "ev") fun H10 e10 => ?_
      have ex10 := ((e7.trans e8).trans e9).trans e10
      refine s_appU (ex_g ex10 hnp') (by walk_at "ev") (eu_tup (by walk_at "ea") (by show 2 ≤ 100000; decide)) (by rw [nrefs_len]; omega) fun t H11 ht11 e11 h11 => ?_
      have hnp11 := ex_g e11 (ex_g ex10 hnp')
      have hne : t ≠ np := ne_of h11 hnp11 (fun z => nomatch z)
      refine ⟨qs ++ [(t, z, net)], some (.int (i : Nat)), some (.str z), some (.int net), ?_, ?_, ?_, ?_, by rw [List.length_append, hql]; rfl, ?_, ?_, ?_⟩
      · rw [nets_add]
        rfl
      · exact ex_up ((ex.trans ex10).trans e11) hnp
      · rw [upd_same]
        unfold nrefs
        rw [List.map_append]
        rfl
      · exact TN.add (((ht.ex ex10).ex e11).upd hnp11) (by rw [upd_ne hne]; exact h11)
      · rw [upd_ne hnps]
        exact ex_g e11 (ex_g ex10 hp0')
      · intro h
        rw [nets_add]
        show _ + net = 0
        rw [hlast h]
        omega
      · intro q hq
        rcases List.mem_append.mp hq with h | h
        · exact hso q h
        · obtain rfl := List.mem_singleton.mp h
          exact hzok
    · rintro σ' H7 ⟨qs, y5, y6, y7, rfl, ex, hnp', ht, hql, hp0', hsum, hso⟩
      dsimp only
      rw [List.length_map, hwl] at hql hsum
      have hsum := hsum rfl
      refine q_asgL (el_list (by walk_at "ev") (sq_of hnp')) fun hd H8 hhd e8 h8 => ?_
      have hnp8 := ex_g e8 hnp'
      have ht8 := ht.ex e8
      refine q_forR1 (n := 2) (by walk_at "ea") (by omega) (fun i σ' H' => ∃ y10 y11 : Option V, σ' = [some (.ref a), some (.ref p), some (.int (n : Int)), some (.ref p0), some (.ref np), some (.int (netsOf qs).sum), y5, y6, y7, some (.ref hd), y10, y11] ∧ H' np = some (.lst (nrefs qs)) ∧ H' hd = some (.lst (nrefs qs)) ∧ TN H' qs) ?_ ?_ ?_
      · intro H9 e9
        exact ⟨none, none, rfl, ex_g e9 hnp8, ex_g e9 h8, ht8.ex e9⟩
      · rintro i σ' H9 _ ⟨y10, y11, rfl, hnp9, hhd9, ht9⟩
        refine q_callQ (by walk_at "ea") fun H10 e10 => ⟨hd, qs, rfl, sq_of (ex_g e10 hhd9), ht9.ex e10, by omega, fun _ ts r H11 tp htp e11 h11 hT11 hTr hv hts => ?_, fun h => absurd hsum h⟩
        have hnp11 := ex_g (e10.trans e11) hnp9
        have hhd11 := ex_g (e10.trans e11) hhd9
        have ht11 := ht9.ex (e10.trans e11)
        refine q_when (b := false) ?_ (fun h => by cases h) fun _ H12 e12 => ?_
        · refine et_or (a := false) (b := !true) (et_test (ev_op (ev_var rfl) (ev_var rfl) (rv_neD (d := netD qs) (dp_net (sq_of hhd11) ht11) (dp_net (sq_of hnp11) ht11) (shaped_net qs hso)))) fun _ => et_not (et_B ?_)
          intro H13 e13 Q1 q1
          refine ⟨.ref tp, rfl, ?_⟩
          refine ⟨.ref np, rfl, ?_⟩
          have ex15 := e13
          refine ⟨np, qs, rfl, sq_of (ex_g ex15 hnp11), ht11.ex ex15, by omega, fun ts2 r2 H16 p2 hp2 e16 h16 hT16 hTr2 hv2 hts2 => ?_⟩
          obtain rfl := hTr.det hTr2
          have hnl := named_len hv2
          refine ⟨.ref tp, .ref p2, trnD (named (nmsOf qs) r), rfl, pl_trn (by omega), dp_trn (sq_of (ex_g (ex15.trans e16) h11)) (hT11.ex (ex15.trans e16)) hv, dp_trn (sq_of h16) hT16 hv2, fun H17 e17 => q1 H17 (e16.trans e17)⟩
        · refine s_app (ex_g e12 h11) (by walk_at "ev") (by walk_at "ev") (by unfold trefs; rw [List.length_map]; omega) fun H13 e13 => ?_
          have n1 : np ≠ tp := ne_of_none (ex_g e10 hnp9) htp
          have n2 : hd ≠ tp := ne_of_none (ex_g e10 hhd9) htp
          exact ⟨_, _, rfl, by rw [upd_ne n1]; exact ex_g (e12.trans e13) hnp11, by rw [upd_ne n2]; exact ex_g (e12.trans e13) hhd11, (ht11.ex (e12.trans e13)).upd (ex_g (e12.trans e13) h11)⟩
      · rintro σ' H9 _
        refine s_ret ev_c fun H10 e10 => q H10
end

end Su
namespace Su
def top_mk {K : PySem.W.Frag} {h : Heap} {mg : Str → Option Value} (X : K.In h) (G : h.Ns mainGlobals mg)
    {od0 an0 : Option Addr} {sl0 : Array (Option Value)} {oc0 kV0 dc0 pm0 cd0 ct0 : Value} {f0 : Addr}
    (a0 : PySem.W.nsIn K mainGlobals "transfers" = some (some (.ref f0))) (l0 : K.lookup f0 = some ⟨oc0, od0, .func (PySem.W.fnOf "transfers" "transfers" (defArgs s_transfers) (defBody s_transfers) (defScope s_transfers) .none kV0 dc0 pm0 an0 cd0 ct0), sl0⟩) (c0 : PySem.W.codeIn K cd0 "transfers" = true) (k0 : PySem.W.keepIn K (.ref f0) = true)
    {od1 an1 : Option Addr} {sl1 : Array (Option Value)} {oc1 kV1 dc1 pm1 cd1 ct1 : Value} {f1 : Addr}
    (a1 : PySem.W.nsIn K mainGlobals "_law_draws" = some (some (.ref f1))) (l1 : K.lookup f1 = some ⟨oc1, od1, .func (PySem.W.fnOf "_law_draws" "_law_draws" (defArgs s__law_draws) (defBody s__law_draws) (defScope s__law_draws) .none kV1 dc1 pm1 an1 cd1 ct1), sl1⟩) (c1 : PySem.W.codeIn K cd1 "_law_draws" = true) (k1 : PySem.W.keepIn K (.ref f1) = true)
    {od2 an2 : Option Addr} {sl2 : Array (Option Value)} {oc2 kV2 dc2 pm2 cd2 ct2 : Value} {f2 : Addr}
    (a2 : PySem.W.nsIn K mainGlobals "_law_same" = some (some (.ref f2))) (l2 : K.lookup f2 = some ⟨oc2, od2, .func (PySem.W.fnOf "_law_same" "_law_same" (defArgs s__law_same) (defBody s__law_same) (defScope s__law_same) .none kV2 dc2 pm2 an2 cd2 ct2), sl2⟩) (c2 : PySem.W.codeIn K cd2 "_law_same" = true) (k2 : PySem.W.keepIn K (.ref f2) = true)
    {od3 an3 : Option Addr} {sl3 : Array (Option Value)} {oc3 kV3 dc3 pm3 cd3 ct3 : Value} {f3 : Addr}
    (a3 : PySem.W.nsIn K mainGlobals "_law_names" = some (some (.ref f3))) (l3 : K.lookup f3 = some ⟨oc3, od3, .func (PySem.W.fnOf "_law_names" "_law_names" (defArgs s__law_names) (defBody s__law_names) (defScope s__law_names) .none kV3 dc3 pm3 an3 cd3 ct3), sl3⟩) (c3 : PySem.W.codeIn K cd3 "_law_names" = true) (k3 : PySem.W.keepIn K (.ref f3) = true)
    {od4 an4 : Option Addr} {sl4 : Array (Option Value)} {oc4 kV4 dc4 pm4 cd4 ct4 : Value} {f4 : Addr}
    (a4 : PySem.W.nsIn K mainGlobals "_law_paid" = some (some (.ref f4))) (l4 : K.lookup f4 = some ⟨oc4, od4, .func (PySem.W.fnOf "_law_paid" "_law_paid" (defArgs s__law_paid) (defBody s__law_paid) (defScope s__law_paid) .none kV4 dc4 pm4 an4 cd4 ct4), sl4⟩) (c4 : PySem.W.codeIn K cd4 "_law_paid" = true) (k4 : PySem.W.keepIn K (.ref f4) = true)
    {od5 an5 : Option Addr} {sl5 : Array (Option Value)} {oc5 kV5 dc5 pm5 cd5 ct5 : Value} {f5 : Addr}
    (a5 : PySem.W.nsIn K mainGlobals "law" = some (some (.ref f5))) (l5 : K.lookup f5 = some ⟨oc5, od5, .func (PySem.W.fnOf "law" "law" (defArgs s_law) (defBody s_law) (defScope s_law) .none kV5 dc5 pm5 an5 cd5 ct5), sl5⟩) (c5 : PySem.W.codeIn K cd5 "law" = true) (k5 : PySem.W.keepIn K (.ref f5) = true)
    (z0 : PySem.W.nsIn K mainGlobals "abs" = some none)
    (z1 : PySem.W.nsIn K mainGlobals "all" = some none)
    (z2 : PySem.W.nsIn K mainGlobals "bool" = some none)
    (z3 : PySem.W.nsIn K mainGlobals "enumerate" = some none)
    (z4 : PySem.W.nsIn K mainGlobals "int" = some none)
    (z5 : PySem.W.nsIn K mainGlobals "isinstance" = some none)
    (z6 : PySem.W.nsIn K mainGlobals "len" = some none)
    (z7 : PySem.W.nsIn K mainGlobals "list" = some none)
    (z8 : PySem.W.nsIn K mainGlobals "min" = some none)
    (z9 : PySem.W.nsIn K mainGlobals "range" = some none)
    (z10 : PySem.W.nsIn K mainGlobals "str" = some none)
    (z11 : PySem.W.nsIn K mainGlobals "sum" = some none)
    (z12 : PySem.W.nsIn K mainGlobals "tuple" = some none)
    (z13 : PySem.W.nsIn K mainGlobals "zip" = some none)
    {fc0 : Addr}
    (x1 : PySem.W.nsIn K mainGlobals "SusuError" = some (some (.ref fc0)))
    {fc2 : Addr}
    (x3 : PySem.W.nsIn K mainGlobals "Uneven" = some (some (.ref fc2)))
    (x4 : PySem.W.excIn K fc2 vErr "ValueError.__new__" = true)
    (x5 : PySem.W.keepIn K (.ref fc2) = true)
    (x6_0 : PySem.W.findIn K (.ref fc2) "__getattribute__" = some (some (.builtin "BaseException.__getattribute__")))
    (x6_1 : PySem.W.findIn K (.ref fc2) "__getattr__" = some none)
    (x6_2 : PySem.W.subIn K (.ref fc2) (.type "BaseException") = some true)
    (x6_3 : PySem.W.hasDictIn K fc2 = true)
    (x6_4 : PySem.W.findIn K (.ref fc2) "__class__" = some (some (.builtin "object.__class__")))
    (x6_5 : PySem.W.specialIn K (.builtin "object.__class__") "__get__" = some (some (.builtin "getset_descriptor.__get__")))
    (x6_6 : PySem.W.takesIn K (.builtin "object.__class__") = some true)
    (x6_7 : PySem.W.mroIn K fc2 (.type "object") = some true)
    (x7 : PySem.W.subIn K (.ref fc2) (.type "BaseException") = some true)
    (x8 : PySem.W.typeIn K (.ref fc2) = some (.type "type")) : Top K mg where
      f_transfers := f0
      fd_transfers := _
      F_transfers := fun_mk (st := s_transfers) l0 c0 k0
      b_transfers := (fun_mk (st := s_transfers) l0 c0 k0).binds (ps := ["nets"]) (fun _ _ _ _ _ _ us hl => match us, hl with | [_], _ => rfl)
      m_transfers := PySem.W.mg_of X G a0
      f__law_draws := f1
      fd__law_draws := _
      F__law_draws := fun_mk (st := s__law_draws) l1 c1 k1
      b__law_draws := (fun_mk (st := s__law_draws) l1 c1 k1).binds (ps := ["_law_script", "_law_many"]) (fun _ _ _ _ _ _ us hl => match us, hl with | [_, _], _ => rfl)
      m__law_draws := PySem.W.mg_of X G a1
      f__law_same := f2
      fd__law_same := _
      F__law_same := fun_mk (st := s__law_same) l2 c2 k2
      b__law_same := (fun_mk (st := s__law_same) l2 c2 k2).binds (ps := ["_law_told", "_law_due"]) (fun _ _ _ _ _ _ us hl => match us, hl with | [_, _], _ => rfl)
      m__law_same := PySem.W.mg_of X G a2
      f__law_names := f3
      fd__law_names := _
      F__law_names := fun_mk (st := s__law_names) l3 c3 k3
      b__law_names := (fun_mk (st := s__law_names) l3 c3 k3).binds (ps := ["_law_some", "_law_many"]) (fun _ _ _ _ _ _ us hl => match us, hl with | [_, _], _ => rfl)
      m__law_names := PySem.W.mg_of X G a3
      f__law_paid := f4
      fd__law_paid := _
      F__law_paid := fun_mk (st := s__law_paid) l4 c4 k4
      b__law_paid := (fun_mk (st := s__law_paid) l4 c4 k4).binds (ps := ["_law_nets"]) (fun _ _ _ _ _ _ us hl => match us, hl with | [_], _ => rfl)
      m__law_paid := PySem.W.mg_of X G a4
      f_law := f5
      fd_law := _
      F_law := fun_mk (st := s_law) l5 c5 k5
      b_law := (fun_mk (st := s_law) l5 c5 k5).binds (ps := ["_law_script"]) (fun _ _ _ _ _ _ us hl => match us, hl with | [_], _ => rfl)
      m_law := PySem.W.mg_of X G a5
      m_abs := PySem.W.mg_none_of X G z0
      m_all := PySem.W.mg_none_of X G z1
      m_bool := PySem.W.mg_none_of X G z2
      m_enumerate := PySem.W.mg_none_of X G z3
      m_int := PySem.W.mg_none_of X G z4
      m_isinstance := PySem.W.mg_none_of X G z5
      m_len := PySem.W.mg_none_of X G z6
      m_list := PySem.W.mg_none_of X G z7
      m_min := PySem.W.mg_none_of X G z8
      m_range := PySem.W.mg_none_of X G z9
      m_str := PySem.W.mg_none_of X G z10
      m_sum := PySem.W.mg_none_of X G z11
      m_tuple := PySem.W.mg_none_of X G z12
      m_zip := PySem.W.mg_none_of X G z13
      f_SusuError := fc0
      m_SusuError := PySem.W.mg_of X G x1
      f_Uneven := fc2
      m_Uneven := PySem.W.mg_of X G x3
      x_Uneven := x4
      kp_Uneven := x5
      e_Uneven := ⟨x6_0, x6_1, x6_2, x6_3, x6_4, x6_5, x6_6, x6_7⟩
      sb_Uneven := x7
      ty_Uneven := x8
theorem all_mk {l : PySem.W.OpenLaw} {w : World} {K : PySem.W.Frag} {h : Heap} {mg : Str → Option Value} {fa : Addr} (X : K.In h) (G : h.Ns mainGlobals mg) (hfa : mg "law" = some (.ref fa))
    {od0 an0 : Option Addr} {sl0 : Array (Option Value)} {oc0 kV0 dc0 pm0 cd0 ct0 : Value} {f0 : Addr}
    (a0 : PySem.W.nsIn K mainGlobals "transfers" = some (some (.ref f0))) (l0 : K.lookup f0 = some ⟨oc0, od0, .func (PySem.W.fnOf "transfers" "transfers" (defArgs s_transfers) (defBody s_transfers) (defScope s_transfers) .none kV0 dc0 pm0 an0 cd0 ct0), sl0⟩) (c0 : PySem.W.codeIn K cd0 "transfers" = true) (k0 : PySem.W.keepIn K (.ref f0) = true)
    {od1 an1 : Option Addr} {sl1 : Array (Option Value)} {oc1 kV1 dc1 pm1 cd1 ct1 : Value} {f1 : Addr}
    (a1 : PySem.W.nsIn K mainGlobals "_law_draws" = some (some (.ref f1))) (l1 : K.lookup f1 = some ⟨oc1, od1, .func (PySem.W.fnOf "_law_draws" "_law_draws" (defArgs s__law_draws) (defBody s__law_draws) (defScope s__law_draws) .none kV1 dc1 pm1 an1 cd1 ct1), sl1⟩) (c1 : PySem.W.codeIn K cd1 "_law_draws" = true) (k1 : PySem.W.keepIn K (.ref f1) = true)
    {od2 an2 : Option Addr} {sl2 : Array (Option Value)} {oc2 kV2 dc2 pm2 cd2 ct2 : Value} {f2 : Addr}
    (a2 : PySem.W.nsIn K mainGlobals "_law_same" = some (some (.ref f2))) (l2 : K.lookup f2 = some ⟨oc2, od2, .func (PySem.W.fnOf "_law_same" "_law_same" (defArgs s__law_same) (defBody s__law_same) (defScope s__law_same) .none kV2 dc2 pm2 an2 cd2 ct2), sl2⟩) (c2 : PySem.W.codeIn K cd2 "_law_same" = true) (k2 : PySem.W.keepIn K (.ref f2) = true)
    {od3 an3 : Option Addr} {sl3 : Array (Option Value)} {oc3 kV3 dc3 pm3 cd3 ct3 : Value} {f3 : Addr}
    (a3 : PySem.W.nsIn K mainGlobals "_law_names" = some (some (.ref f3))) (l3 : K.lookup f3 = some ⟨oc3, od3, .func (PySem.W.fnOf "_law_names" "_law_names" (defArgs s__law_names) (defBody s__law_names) (defScope s__law_names) .none kV3 dc3 pm3 an3 cd3 ct3), sl3⟩) (c3 : PySem.W.codeIn K cd3 "_law_names" = true) (k3 : PySem.W.keepIn K (.ref f3) = true)
    {od4 an4 : Option Addr} {sl4 : Array (Option Value)} {oc4 kV4 dc4 pm4 cd4 ct4 : Value} {f4 : Addr}
    (a4 : PySem.W.nsIn K mainGlobals "_law_paid" = some (some (.ref f4))) (l4 : K.lookup f4 = some ⟨oc4, od4, .func (PySem.W.fnOf "_law_paid" "_law_paid" (defArgs s__law_paid) (defBody s__law_paid) (defScope s__law_paid) .none kV4 dc4 pm4 an4 cd4 ct4), sl4⟩) (c4 : PySem.W.codeIn K cd4 "_law_paid" = true) (k4 : PySem.W.keepIn K (.ref f4) = true)
    {od5 an5 : Option Addr} {sl5 : Array (Option Value)} {oc5 kV5 dc5 pm5 cd5 ct5 : Value} {f5 : Addr}
    (a5 : PySem.W.nsIn K mainGlobals "law" = some (some (.ref f5))) (l5 : K.lookup f5 = some ⟨oc5, od5, .func (PySem.W.fnOf "law" "law" (defArgs s_law) (defBody s_law) (defScope s_law) .none kV5 dc5 pm5 an5 cd5 ct5), sl5⟩) (c5 : PySem.W.codeIn K cd5 "law" = true) (k5 : PySem.W.keepIn K (.ref f5) = true)
    (z0 : PySem.W.nsIn K mainGlobals "abs" = some none)
    (z1 : PySem.W.nsIn K mainGlobals "all" = some none)
    (z2 : PySem.W.nsIn K mainGlobals "bool" = some none)
    (z3 : PySem.W.nsIn K mainGlobals "enumerate" = some none)
    (z4 : PySem.W.nsIn K mainGlobals "int" = some none)
    (z5 : PySem.W.nsIn K mainGlobals "isinstance" = some none)
    (z6 : PySem.W.nsIn K mainGlobals "len" = some none)
    (z7 : PySem.W.nsIn K mainGlobals "list" = some none)
    (z8 : PySem.W.nsIn K mainGlobals "min" = some none)
    (z9 : PySem.W.nsIn K mainGlobals "range" = some none)
    (z10 : PySem.W.nsIn K mainGlobals "str" = some none)
    (z11 : PySem.W.nsIn K mainGlobals "sum" = some none)
    (z12 : PySem.W.nsIn K mainGlobals "tuple" = some none)
    (z13 : PySem.W.nsIn K mainGlobals "zip" = some none)
    {fc0 : Addr}
    (x1 : PySem.W.nsIn K mainGlobals "SusuError" = some (some (.ref fc0)))
    {fc2 : Addr}
    (x3 : PySem.W.nsIn K mainGlobals "Uneven" = some (some (.ref fc2)))
    (x4 : PySem.W.excIn K fc2 vErr "ValueError.__new__" = true)
    (x5 : PySem.W.keepIn K (.ref fc2) = true)
    (x6_0 : PySem.W.findIn K (.ref fc2) "__getattribute__" = some (some (.builtin "BaseException.__getattribute__")))
    (x6_1 : PySem.W.findIn K (.ref fc2) "__getattr__" = some none)
    (x6_2 : PySem.W.subIn K (.ref fc2) (.type "BaseException") = some true)
    (x6_3 : PySem.W.hasDictIn K fc2 = true)
    (x6_4 : PySem.W.findIn K (.ref fc2) "__class__" = some (some (.builtin "object.__class__")))
    (x6_5 : PySem.W.specialIn K (.builtin "object.__class__") "__get__" = some (some (.builtin "getset_descriptor.__get__")))
    (x6_6 : PySem.W.takesIn K (.builtin "object.__class__") = some true)
    (x6_7 : PySem.W.mroIn K fc2 (.type "object") = some true)
    (x7 : PySem.W.subIn K (.ref fc2) (.type "BaseException") = some true)
    (x8 : PySem.W.typeIn K (.ref fc2) = some (.type "type")) :
    ∃ fd : FuncData, (∀ (s : Shared) (v : Value), BindsTo s fd ⟨[v], []⟩ [("_law_script", v)]) ∧ ∀ base : Heap, K.In base → base.Ns mainGlobals mg → FnOk l.prog w K mg base CX0 4 fa fd ["_law_script"] (spLaw K) := by
  have e := hfa.symm.trans (PySem.W.mg_of X G a5)
  cases e
  exact ⟨PySem.W.fnOf "law" "law" (defArgs s_law) (defBody s_law) (defScope s_law) .none kV5 dc5 pm5 an5 cd5 ct5, fun s v => .of_eq rfl, fun base _ _ => ok_law (fun_mk (st := s_law) l5 c5 k5) (top_mk X G a0 l0 c0 k0 a1 l1 c1 k1 a2 l2 c2 k2 a3 l3 c3 k3 a4 l4 c4 k4 a5 l5 c5 k5 z0 z1 z2 z3 z4 z5 z6 z7 z8 z9 z10 z11 z12 z13 x1 x3 x4 x5 x6_0 x6_1 x6_2 x6_3 x6_4 x6_5 x6_6 x6_7 x7 x8)⟩
end Su
open PySem PySem.W PyProof.Rows
set_option maxHeartbeats 0 in
theorem PySem.Challenge.cw_susu_k15_transfers_as_told_holds : PySem.Challenge.rw_susu_k15_transfers_as_told.Holds := by
  w_on; o_law; k_head; (case hw => w_witness2)
  k_fill
  refine L2.walk_of (l := PySem.Challenge.rw_susu_k15_transfers_as_told) (n := 63) (k := 4) (x := "_law_script") (CX := fun _ => L2.CX0) (sp := fun w => Su.spLaw _) rfl (by decide) rfl ⟨rfl, by decide, by decide⟩ (fun w h Y => PySem.W.kIn_of Y) ?F (fun _ _ a ns hl _ hS => ⟨a, ns, rfl, hS, hl, fun _ => rfl⟩) (fun _ _ _ _ _ h => h)
  case F =>
    intro w mg fa h KX G hmg
    refine' Su.all_mk KX G hmg ?a0 ?l0 ?c0 ?k0 ?a1 ?l1 ?c1 ?k1 ?a2 ?l2 ?c2 ?k2 ?a3 ?l3 ?c3 ?k3 ?a4 ?l4 ?c4 ?k4 ?a5 ?l5 ?c5 ?k5 ?z0 ?z1 ?z2 ?z3 ?z4 ?z5 ?z6 ?z7 ?z8 ?z9 ?z10 ?z11 ?z12 ?z13 ?x1 ?x3 ?x4 ?x5 ?x6_0 ?x6_1 ?x6_2 ?x6_3 ?x6_4 ?x6_5 ?x6_6 ?x6_7 ?x7 ?x8
    (case a0 => k_is); (case l0 => k_is); (case c0 => k_is); (case k0 => k_is); (case a1 => k_is); (case l1 => k_is); (case c1 => k_is); (case k1 => k_is); (case a2 => k_is); (case l2 => k_is); (case c2 => k_is); (case k2 => k_is); (case a3 => k_is); (case l3 => k_is); (case c3 => k_is); (case k3 => k_is); (case a4 => k_is); (case l4 => k_is); (case c4 => k_is); (case k4 => k_is); (case a5 => k_is); (case l5 => k_is); (case c5 => k_is); (case k5 => k_is); (case z0 => k_is); (case z1 => k_is); (case z2 => k_is); (case z3 => k_is); (case z4 => k_is); (case z5 => k_is); (case z6 => k_is); (case z7 => k_is); (case z8 => k_is); (case z9 => k_is); (case z10 => k_is); (case z11 => k_is); (case z12 => k_is); (case z13 => k_is); (case x1 => first | k_is | k_exc | rfl); (case x3 => first | k_is | k_exc | rfl); (case x4 => first | k_is | k_exc | rfl); (case x5 => first | k_is | k_exc | rfl); (case x6_0 => first | k_is | k_exc | rfl); (case x6_1 => first | k_is | k_exc | rfl); (case x6_2 => first | k_is | k_exc | rfl); (case x6_3 => first | k_is | k_exc | rfl); (case x6_4 => first | k_is | k_exc | rfl); (case x6_5 => first | k_is | k_exc | rfl); (case x6_6 => first | k_is | k_exc | rfl); (case x6_7 => first | k_is | k_exc | rfl); (case x7 => first | k_is | k_exc | rfl); (case x8 => first | k_is | k_exc | rfl)

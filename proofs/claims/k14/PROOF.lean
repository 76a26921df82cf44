import PyProof.Rows.All
import Wide.All
import OpenK.AllK
import Wide.FinOn
import HandS.ForMost
import HandS.WordsExc
import HandS.ExcOwn
import HandS.Exc
import HandS.Evl
import HandS.IsInst
import HandS.Wide
import HandS.Zip
import HandS.More
import PySem.Challenge.RW_susu_k14_nets_of_debts
set_option Elab.async false
set_option linter.all false
set_option maxRecDepth 100000

namespace Su
open PySem PySem.Spec PyProof.Rows L2 Evl
/-! ### small rules over HandS.Evl -/
theorem CMul.l {i j : Int} (h1 : -(2 ^ 64) < i) (h2 : i < 2 ^ 64) : CMul i j := .inl ⟨h1, h2⟩
theorem CMul.r {i j : Int} (h1 : -(2 ^ 64) < j) (h2 : j < 2 ^ 64) : CMul i j := .inr ⟨h1, h2⟩
theorem rv_mod {H : Hp} {i j : Int} (h : 0 < j) : RV (rI (fun _ j => 0 < j) fun i j => .int (i % j)) (.int i) (.int j) H (.int (i % j)) := rv_I h
theorem rv_div {H : Hp} {i j : Int} (h : 0 < j) (h2 : j < 1073741824) : RV (rI CDiv fun i j => .int (i / j)) (.int i) (.int j) H (.int (i / j)) := rv_I ⟨h, h2⟩
theorem rv_mul {H : Hp} {i j : Int} (h : CMul i j) : RV (rI CMul fun i j => .int (i * j)) (.int i) (.int j) H (.int (i * j)) := rv_I h
theorem rv_pow {H : Hp} {i j : Int} (h : CPow i j) : RV (rI CPow fun i j => .int (i ^ j.toNat)) (.int i) (.int j) H (.int (i ^ j.toNat)) := rv_I h
theorem rv_p18 {H : Hp} : RV (rI CPow fun i j => .int (i ^ j.toNat)) (.int 10) (.int 18) H (.int (10 ^ 18)) := rv_I (C := CPow) (g := fun i j => .int (i ^ j.toNat)) ⟨by decide, by decide, by decide⟩
theorem rv_p12 {H : Hp} : RV (rI CPow fun i j => .int (i ^ j.toNat)) (.int 10) (.int 12) H (.int (10 ^ 12)) := rv_I (C := CPow) (g := fun i j => .int (i ^ j.toNat)) ⟨by decide, by decide, by decide⟩
theorem rv_p20 {H : Hp} : RV (rI CPow fun i j => .int (i ^ j.toNat)) (.int 10) (.int 20) H (.int (10 ^ 20)) := rv_I (C := CPow) (g := fun i j => .int (i ^ j.toNat)) ⟨by decide, by decide, by decide⟩
theorem rv_divW {H : Hp} {i j : Int} (h : CDivW i j) : RV (rI CDivW fun i j => .int (i / j)) (.int i) (.int j) H (.int (i / j)) := rv_I h
theorem rv_mulW {H : Hp} {i j : Int} (h : CMulW i j) : RV (rI CMulW fun i j => .int (i * j)) (.int i) (.int j) H (.int (i * j)) := rv_I h
theorem rc_abs {H : Hp} {i : Int} : RC (fun xs H Q => ∃ i, xs = [V.int i] ∧ Q (.int (if i < 0 then -i else i)) H) [.int i] H (.int (if i < 0 then -i else i)) := fun H1 _ _ q => ⟨i, rfl, q H1 (Ex.refl H1)⟩
theorem rc_max {H : Hp} {i j : Int} : RC (fun xs H Q => ∃ i j, xs = [V.int i, .int j] ∧ Q (.int (if j > i then j else i)) H) [.int i, .int j] H (.int (if j > i then j else i)) := fun H1 _ _ q => ⟨i, j, rfl, q H1 (Ex.refl H1)⟩
theorem rc_min {H : Hp} {i j : Int} : RC (fun xs H Q => ∃ i j, xs = [V.int i, .int j] ∧ Q (.int (if j < i then j else i)) H) [.int i, .int j] H (.int (if j < i then j else i)) := fun H1 _ _ q => ⟨i, j, rfl, q H1 (Ex.refl H1)⟩
theorem rc_len {K : PySem.W.Frag} {H : Hp} {p : Addr} {ys : List V} (h : SqL K H p ys ∨ SqT K H p ys) : RC (fun xs H Q => ∃ p ys, xs = [V.ref p] ∧ (SqL K H p ys ∨ SqT K H p ys) ∧ Q (.int ys.length) H) [.ref p] H (.int ys.length) :=
  fun H1 e _ q => ⟨p, ys, rfl, h.elim (fun h => .inl (ex_l e h)) (fun h => .inr (ex_t e h)), q H1 (Ex.refl H1)⟩
theorem rc_isi_int {K : PySem.W.Frag} {H : Hp} {i : Int} {n : String} {b : Bool} (h : kitB "int" n = some b) : RC (rIsi K) [.int i, .ty n] H (.bl b) :=
  fun H1 _ _ q => ⟨.int i, .ty n, .type "int", .type n, b, rfl, .ty n, .base (.int i), kit_ty h, q H1 (Ex.refl H1)⟩
theorem ex_g {H H' : Hp} {a : Addr} {o : HO} (e : Ex H H') (h : H a = some o) : H' a = some o := e a o h
theorem at_rows {rows : List Int} {z : Int} (h0 : 0 ≤ z) (h : z < rows.length) : atI (rows.map V.int) z = some (.int (rows.getD z.toNat 0)) := by
  have hz : z = ((z.toNat : Nat) : Int) := by omega
  have hl : z.toNat < rows.length := by omega
  refine at_of hz ?_
  rw [List.getElem?_map, List.getElem?_eq_getElem hl, List.getD_eq_getElem?_getD, List.getElem?_eq_getElem hl]
  rfl
theorem at4 {a b c d z : Int} (h0 : 0 ≤ z) (h : z < 4) : atI [V.int a, .int b, .int c, .int d] z = some (.int (if z = 0 then a else if z = 1 then b else if z = 2 then c else d)) := by
  have h4 : z = 0 ∨ z = 1 ∨ z = 2 ∨ z = 3 := by omega
  rcases h4 with rfl | rfl | rfl | rfl <;> rfl
theorem wm {i j : Int} (h1 : i.natAbs < 2 ^ 240) (h2 : j.natAbs < 2 ^ 240) : CMulW i j := wide_mul h1 h2 (by decide) (by decide) (by decide)
theorem wd {i j : Int} (h : 0 < j) (h2 : j.natAbs < 2 ^ 240) : CDivW i j := wide_div h h2 (by decide) (by decide)
theorem n400 {i : Int} {n : Int} (h1 : -n ≤ i) (h2 : i ≤ n) (h : n.toNat < 2 ^ 240) : i.natAbs < 2 ^ 240 := by omega
theorem n400' {i : Int} (h1 : -(10 ^ 70) ≤ i) (h2 : i ≤ 10 ^ 70) : i.natAbs < 2 ^ 240 := n400 h1 h2 (by decide)
theorem decT {p : Prop} [Decidable p] (h : p) {b : Bool} (e : decide p = b) : b = true := by rw [← e]; exact decide_eq_true h
abbrev vErr : List Value := [.type "ValueError", .type "Exception", .type "BaseException", .type "object"]
theorem ex_up {H : Hp} {p : Addr} {o' : HO} {H0 : Hp} (e : Ex H0 H) (hp : H0 p = none) : Ex H0 (upd H p o') := Ex.mut e hp
theorem seq_ne {K : PySem.W.Frag} {H H' : Hp} {a : Addr} {xs : List V} (e : Ex H H') (h : SqL K H a xs) : SqL K H' a xs := ex_l e h
/-- a def's call that hands back a new list of which something is known -/
def SpN (sp : Sp) (vs : List V) (H : Hp) (P : List V → Prop) : Prop := ∀ H1, Ex H H1 → ∀ Q : VK, (∀ xs p H2, P xs → H1 p = none → Ex H1 H2 → H2 p = some (.lst xs) → Q (.ref p) H2) → ∀ E : XK, sp vs H1 Q E
theorem q_callN {sp : Sp} {dvs vs : List V} {E : XK} {ta : TA} {σ : L2.St} {H : Hp} {i : Nat} {D : Ends} {tz : TS} {P : List V → Prop} (h : EvA ta σ H vs) (hs : SpN sp (vs ++ dvs) H P)
    (k : ∀ xs p H1, P xs → H p = none → Ex H H1 → H1 p = some (.lst xs) → tz D (σ.set i (some (.ref p))) H1) : tSeq (tAsg (tCall sp dvs E ta) (gName i)) tz D σ H :=
  h H (Ex.refl H) _ fun H1 e1 => hs H1 e1 _ (fun xs p H2 hP hp e2 h2 => k xs p H2 hP (fresh_back e1 hp) (e1.trans e2) h2) E
theorem s_callN {sp : Sp} {dvs vs : List V} {E : XK} {ta : TA} {σ : L2.St} {H : Hp} {i : Nat} {D : Ends} {P : List V → Prop} (h : EvA ta σ H vs) (hs : SpN sp (vs ++ dvs) H P)
    (k : ∀ xs p H1, P xs → H p = none → Ex H H1 → H1 p = some (.lst xs) → D.nx (σ.set i (some (.ref p))) H1) : tAsg (tCall sp dvs E ta) (gName i) D σ H :=
  h H (Ex.refl H) _ fun H1 e1 => hs H1 e1 _ (fun xs p H2 hP hp e2 h2 => k xs p H2 hP (fresh_back e1 hp) (e1.trans e2) h2) E
/-- .. whose first argument is a new list -/
theorem s_callN1 {sp : Sp} {dvs vs xs0 : List V} {E : XK} {te : TE} {tr : TA} {σ : L2.St} {H : Hp} {i : Nat} {D : Ends} {P : List V → Prop} (h1 : EvL te σ H xs0) (h2 : EvA tr σ H vs) (hs : ∀ p0 H1, Ex H H1 → H1 p0 = some (.lst xs0) → SpN sp (.ref p0 :: vs ++ dvs) H1 P)
    (k : ∀ xs p H1, P xs → H p = none → Ex H H1 → H1 p = some (.lst xs) → D.nx (σ.set i (some (.ref p))) H1) : tAsg (tCall sp dvs E (tCons te tr)) (gName i) D σ H :=
  h1 H (Ex.refl H) _ fun p0 H1 _ e1 hp0 => h2 H1 e1 _ fun H2 e2 => hs p0 H2 (e1.trans e2) (e2 _ _ hp0) H2 (Ex.refl H2) _ (fun xs p H3 hP hp e3 h3 => k xs p H3 hP (fresh_back (e1.trans e2) hp) ((e1.trans e2).trans e3) h3) E
theorem ev_callL {sp : Sp} {dvs vs xs0 : List V} {E : XK} {te : TE} {tr : TA} {σ : L2.St} {H : Hp} {z : V} (h1 : EvL te σ H xs0) (h2 : EvA tr σ H vs) (hs : ∀ p0 H1, Ex H H1 → H1 p0 = some (.lst xs0) → SpV sp (.ref p0 :: vs ++ dvs) H1 z) : Ev (tCall sp dvs E (tCons te tr)) σ H z := fun H0 e0 Q q =>
  h1 H0 e0 _ fun p0 H1 _ e1 hp0 => h2 H1 (e0.trans e1) _ fun H2 e2 => hs p0 H2 ((e0.trans e1).trans e2) (e2 _ _ hp0) H2 (Ex.refl H2) _ (fun H3 e3 => q H3 ((e1.trans e2).trans e3)) E
theorem cut_from (xs : List V) (k : Nat) : cutV xs (some (k : Int)) none = xs.drop k := by
  unfold cutV
  rw [HT.sIx_nat, HT.sIx_none]
  by_cases h : k ≤ xs.length
  · rw [Nat.min_eq_left h, List.take_of_length_le (by rw [List.length_drop]; omega)]
  · rw [Nat.min_eq_right (by omega), Nat.sub_self, List.take_zero, List.drop_of_length_le (by omega)]
theorem s_asgSub {l : Addr} {xs : List V} {z : Int} {j : Nat} {te ta tb : TE} {σ : L2.St} {H : Hp} {v : V} {D : Ends} (hl : H l = some (.lst xs)) (h : Ev te σ H v) (ho : Ev ta σ H (.ref l)) (hi : Ev tb σ H (.int z)) (hz : z = (j : Int)) (hj : j < xs.length)
    (k : ∀ H1, Ex H H1 → D.nx σ (upd H1 l (.lst (xs.set j v)))) : tAsg te (gSub ta tb rSetL) D σ H := s_setL hl h ho (hz ▸ hi) hj k
end Su
open PySem PySem.Spec PyProof.Rows L2 Evl Su
/-! ### small tactics: "ev" an expression, "et" a test, "ea" arguments, "rv" an operator, "rc" a built-in, "hc" a bound -/
local macro_rules | `(tactic| walk_at "hc") => `(tactic| first | assumption | omega | (exact Su.CMul.l (by omega) (by omega)) | (exact Su.CMul.r (by omega) (by omega)) | (exact Su.wm (Su.n400' (by omega) (by omega)) (Su.n400' (by omega) (by omega))) | (exact Su.wd (by omega) (Su.n400' (by omega) (by omega))) | decide)
local macro_rules | `(tactic| walk_at "rv") => `(tactic| first
  | (with_reducible exact rv_I0)
  | (with_reducible exact rv_eq rfl)
  | (with_reducible exact rv_ne rfl)
  | (with_reducible refine Su.rv_mod ?_; walk_at "hc")
  | (with_reducible refine Su.rv_div ?_ ?_ <;> walk_at "hc")
  | (with_reducible refine Su.rv_mul ?_; walk_at "hc")
  | exact Su.rv_p18
  | exact Su.rv_p12
  | exact Su.rv_p20
  | (with_reducible refine Su.rv_divW ?_; walk_at "hc")
  | (with_reducible refine Su.rv_mulW ?_; walk_at "hc")
  | (apply rv_ixL; (first | assumption | (exact sq_of (by assumption))); (first | (apply Su.at_rows <;> walk_at "hc") | rfl | assumption)))
local macro_rules | `(tactic| walk_at "rc") => `(tactic| first
  | exact Su.rc_abs
  | exact Su.rc_max
  | exact Su.rc_min
  | exact Su.rc_isi_int (b := true) (by decide +kernel)
  | exact Su.rc_isi_int (b := false) (by decide +kernel))
local macro_rules | `(tactic| walk_at "ea") => `(tactic| first
  | exact ea_nil
  | (apply ea_cons; (walk_at "ev"); (walk_at "ea")))
local macro_rules | `(tactic| walk_at "ev") => `(tactic| first
  | exact ev_c
  | exact ev_var rfl
  | (apply ev_op; (walk_at "ev"); (walk_at "ev"); (walk_at "rv"))
  | (apply ev_un; (walk_at "ev"); (exact ru_neg))
  | (apply ev_andV; (walk_at "ev"); (intro _; walk_at "ev"))
  | (apply ev_orV; (walk_at "ev"); (intro _; walk_at "ev"))
  | (apply ev_notV; (walk_at "ev"))
  | (apply ev_len; (walk_at "ev"); first | assumption | (exact sq_of (by assumption)))
  | (apply ev_cb; (walk_at "ea"); (walk_at "rc")))
local macro_rules | `(tactic| walk_at "et") => `(tactic| first
  | (apply et_and; (walk_at "et"); (intro _; walk_at "et"))
  | (apply et_or; (walk_at "et"); (intro _; walk_at "et"))
  | (apply et_not; (walk_at "et"))
  | (apply et_test; (walk_at "ev"))
  | (apply et_B; (walk_at "ev")))

open PySem PySem.Spec PyProof.Rows L2 Evl Su
namespace Su
def topS (i : Nat) : Stmt := PySem.Challenge.pw_susu_k14_nets_of_debts.main.body.getD i (.Pass ⟨0, 0, 0, 0⟩)
abbrev s_net_rows : Stmt := topS 1
abbrev N_net_rows : List Str := ["debts", "nets", "giver", "getter", "coins", "name"]
theorem sc_net_rows : FnScope N_net_rows ["debts"] (defScope s_net_rows) := ⟨rfl, rfl, rfl, by decide +kernel, rfl, by decide +kernel, by decide +kernel⟩
abbrev s__law_draws : Stmt := topS 3
abbrev N__law_draws : List Str := ["_law_script", "_law_many", "_law_rows", "_law_mix", "_law_cell", "_law_rest"]
theorem sc__law_draws : FnScope N__law_draws ["_law_script", "_law_many"] (defScope s__law_draws) := ⟨rfl, rfl, rfl, by decide +kernel, rfl, by decide +kernel, by decide +kernel⟩
abbrev s__law_same : Stmt := topS 4
abbrev N__law_same : List Str := ["_law_told", "_law_due", "_law_one", "_law_other"]
theorem sc__law_same : FnScope N__law_same ["_law_told", "_law_due"] (defScope s__law_same) := ⟨rfl, rfl, rfl, by decide +kernel, rfl, by decide +kernel, by decide +kernel⟩
abbrev s__law_names : Stmt := topS 5
abbrev N__law_names : List Str := ["_law_some", "_law_many", "_law_letters", "_law_rows", "_law_at", "_law_raw", "_law_size", "_law_turn", "_law_word", "_law_place", "_law_step", "_law_sign", "_law_k"]
theorem sc__law_names : FnScope N__law_names ["_law_some", "_law_many"] (defScope s__law_names) := ⟨rfl, rfl, rfl, by decide +kernel, rfl, by decide +kernel, by decide +kernel⟩
abbrev s_law : Stmt := topS 6
abbrev N_law : List Str := ["_law_script", "_law_some", "_law_people", "_law_debts", "_law_many", "_law_at", "_law_giver", "_law_taker", "_law_due", "_law_name", "_law_net", "_law_named", "_law_coins", "_law_handed", "_law_told"]
theorem sc_law : FnScope N_law ["_law_script"] (defScope s_law) := ⟨rfl, rfl, rfl, by decide +kernel, rfl, by decide +kernel, by decide +kernel⟩
structure Top (K : PySem.W.Frag) (mg : Str → Option Value) where
  f_net_rows : Addr
  fd_net_rows : FuncData
  F_net_rows : Fun K "net_rows" "net_rows" s_net_rows f_net_rows fd_net_rows
  b_net_rows : Binds K fd_net_rows ["debts"] []
  m_net_rows : mg "net_rows" = some (.ref f_net_rows)
  f__law_draws : Addr
  fd__law_draws : FuncData
  F__law_draws : Fun K "_law_draws" "_law_draws" s__law_draws f__law_draws fd__law_draws
  b__law_draws : Binds K fd__law_draws ["_law_script", "_law_many"] []
  m__law_draws : mg "_law_draws" = some (.ref f__law_draws)
  f__law_same : Addr
  fd__law_same : FuncData
  F__law_same : Fun K "_law_same" "_law_same" s__law_same f__law_same fd__law_same
  b__law_same : Binds K fd__law_same ["_law_told", "_law_due"] []
  m__law_same : mg "_law_same" = some (.ref f__law_same)
  f__law_names : Addr
  fd__law_names : FuncData
  F__law_names : Fun K "_law_names" "_law_names" s__law_names f__law_names fd__law_names
  b__law_names : Binds K fd__law_names ["_law_some", "_law_many"] []
  m__law_names : mg "_law_names" = some (.ref f__law_names)
  f_law : Addr
  fd_law : FuncData
  F_law : Fun K "law" "law" s_law f_law fd_law
  b_law : Binds K fd_law ["_law_script"] []
  m_law : mg "law" = some (.ref f_law)
  m_abs : mg "abs" = none
  m_all : mg "all" = none
  m_bool : mg "bool" = none
  m_int : mg "int" = none
  m_isinstance : mg "isinstance" = none
  m_len : mg "len" = none
  m_list : mg "list" = none
  m_range : mg "range" = none
  m_sorted : mg "sorted" = none
  m_str : mg "str" = none
  m_tuple : mg "tuple" = none
  m_zip : mg "zip" = none
end Su
namespace Su
/-! ### rules whose written part is named, for blocks -/
section
variable {X : Cx} {K : PySem.W.Frag}
theorem ix_listK (h : X.K = K := by rfl) : IxR X (rIxL K) := h ▸ ix_list
theorem ix_tupK (h : X.K = K := by rfl) : IxR X (rIxT K) := h ▸ ix_tup
theorem call_len_seqK (h : X.K = K := by rfl) : CallR X (.builtin "len") (fun xs H Q => ∃ p ys, xs = [.ref p] ∧ (SqL K H p ys ∨ SqT K H p ys) ∧ Q (.int ys.length) H) := h ▸ call_len_seq
theorem op_in_seqK (h : X.K = K := by rfl) : OpR X (compareOp .In) (rIn K false) := h ▸ op_in_seq
theorem op_notIn_seqK (h : X.K = K := by rfl) : OpR X (compareOp .NotIn) (rIn K true) := h ▸ op_notIn_seq
theorem call_list_ofK (h : X.K = K := by rfl) : CallR X (.type "list") (fun xs H Q => ∃ p ys, xs = [.ref p] ∧ (SqL K H p ys ∨ SqT K H p ys) ∧ ∀ l, H l = none → Q (.ref l) (upd H l (.lst ys))) := h ▸ call_list_of
theorem call_isiK' (h : X.K = K := by rfl) : CallR X (.builtin "isinstance") (rIsi K) := h ▸ call_isi
end

end Su
namespace Su
/-! ### the drawn numbers -/
def Rows (m : Nat) (rows : List Int) : Prop := m ≤ rows.length ∧ rows.length ≤ m + 63 ∧ ∀ x ∈ rows, -(10 ^ 18) < x ∧ x < 10 ^ 18
theorem Rows.add {rows : List Int} {x : Int} (h : ∀ x ∈ rows, -(10 ^ 18) < x ∧ x < 10 ^ 18) (h1 : -(10 ^ 18) < x) (h2 : x < 10 ^ 18) : ∀ y ∈ rows ++ [x], -(10 ^ 18) < y ∧ y < 10 ^ 18 := fun y hy => by
  rcases List.mem_append.mp hy with h' | h'
  · exact h y h'
  · obtain rfl := List.mem_singleton.mp h'
    exact ⟨h1, h2⟩
theorem Rows.get {m : Nat} {rows : List Int} (h : Rows m rows) (i : Nat) : -(10 ^ 18) < rows.getD i 0 ∧ rows.getD i 0 < 10 ^ 18 := by
  by_cases hi : i < rows.length
  · rw [List.getD_eq_getElem?_getD, List.getElem?_eq_getElem hi]
    exact h.2.2 _ (List.getElem_mem hi)
  · rw [List.getD_eq_getElem?_getD, List.getElem?_eq_none (by omega)]
    decide
section
variable {P : Program} {w : World} {K : PySem.W.Frag} {mg : Str → Option Value} {base : Heap}
def spDraws (K : PySem.W.Frag) : Sp := fun vs H Q _ => ∃ (a : Addr) (ns : List Int) (m : Nat), vs = [.ref a, .int (m : Int)] ∧ SqL K H a (ns.map V.int) ∧ ns.length ≤ 63 ∧ m ≤ 1000 ∧
  ∀ rows H' p, H p = none → Ex H H' → H' p = some (.lst (rows.map V.int)) → Rows m rows → Q (.ref p) H'
theorem spN_draws {K : PySem.W.Frag} {a : Addr} {ns : List Int} {m : Nat} {H : Hp} (hS : SqL K H a (ns.map V.int)) (hl : ns.length ≤ 63) (hm : m ≤ 1000) : SpN (spDraws K) [.ref a, .int (m : Int)] H (fun xs => ∃ rows : List Int, Rows m rows ∧ xs = rows.map V.int) :=
  fun H1 e Q q E => ⟨a, ns, m, rfl, ex_l e hS, hl, hm, fun rows H' p hp e' h' hr => q _ p H' ⟨rows, hr, rfl⟩ hp e' h'⟩
def DrI (H0 : Hp) (a p : Addr) (m i : Nat) (σ : L2.St) (H : Hp) : Prop := ∃ (rows : List Int) (mix : Int) (y4 y5 : Option V), σ = [some (.ref a), some (.int (m : Int)), some (.ref p), some (.int mix), y4, y5] ∧ Ex H0 H ∧ H p = some (.lst (rows.map V.int)) ∧
  rows.length ≤ m + i ∧ 0 ≤ mix ∧ mix < 2147483647 ∧ ∀ x ∈ rows, -(10 ^ 18) < x ∧ x < 10 ^ 18
theorem ok__law_draws {f : Addr} {fd : FuncData} {k : Nat} (F : Fun K "_law_draws" "_law_draws" s__law_draws f fd) (T : Top K mg) : FnOk P w K mg base CX0 (k + 1) f fd ["_law_script", "_law_many"] (spDraws K) := by
  have nd := sc__law_draws.nd
  refine F.ok sc__law_draws (fun vs H Q E h => ?_) (fun cdv A outer s H vs Q E hr h => ?_)
  · obtain ⟨a, ns, m, rfl, _⟩ := h
    rfl
  · obtain ⟨a, ns, m, rfl, hS, hlen, hm, q⟩ := h
    refine ⟨_, (pss_cons (ps_set (i := 2) nd rfl (.inl rfl) (pe_lst pa_nil))
      (pss_cons (ps_set (i := 3) nd rfl (.inl rfl) pe_int)
      (pss_cons (ps_for PassesOwn.never rfl (pi_list (pv 0)) (pg_name (i := 4) nd rfl (.inl rfl))
        (pss_cons (ps_set (i := 3) nd rfl (.inl rfl) (pe_op op_mod (pe_op op_add (pe_op op_mul (pv 3) pe_int) (pv 4)) pe_int))
          (pss_cons (ps_set (i := 5) nd rfl (.inl rfl) (pe_callB call_abs (by rfl) T.m_abs (by decide +kernel) (pa_cons (pv 4) pa_nil)))
          (pss_cons (ps_if (pt_cmpR op_lt (pv 5) (pe_op op_pow pe_int pe_int) (nomark _))
            (pss_cons (ps_expr (pe_bm PySem.F.plainAttrs_list PySem.F.slot_list_append PySem.F.type_list_append mt_append (pv 2) (pa_cons (pv 4) pa_nil)))
              (pss_one (ps_set (i := 5) nd rfl (.inl rfl) pe_int)))
            pss_nil)
          (pss_one (ps_while PassesOwn.never (PW.pt (pw_and (pt_cmpR op_gt (pv 5) pe_int (nomark _)) (pw_and1 (pt_cmpR op_lt (pe_callB call_len_seq (by rfl) T.m_len PySem.boot_len (pa_cons (pv 2) pa_nil)) (pv 1) (nomark _)))))
            (pss_cons (ps_expr (pe_bm PySem.F.plainAttrs_list PySem.F.slot_list_append PySem.F.type_list_append mt_append (pv 2) (pa_cons (pe_op op_mod (pv 5) pe_int) pa_nil)))
              (pss_one (ps_set (i := 5) nd rfl (.inl rfl) (pe_op op_fdiv (pv 5) pe_int))))))))))
      (pss_cons (ps_while PassesOwn.never (pt_cmpR op_lt (pe_callB call_len_seq (by rfl) T.m_len PySem.boot_len (pa_cons (pv 2) pa_nil)) (pv 1) (nomark _))
        (pss_cons (ps_set (i := 3) nd rfl (.inl rfl) (pe_op op_mod (pe_op op_add (pe_op op_mul (pv 3) pe_int) pe_int) pe_int))
          (pss_one (ps_expr (pe_bm PySem.F.plainAttrs_list PySem.F.slot_list_append PySem.F.type_list_append mt_append (pv 2) (pa_cons (pe_op op_mod (pe_op op_mul (pv 3) (pv 3)) pe_int) pa_nil))))))
      (pss_one (ps_ret (pv 2))))))), ?_⟩
    -- rows = []; mix = 1
    refine q_asgL (el_lst ea_nil (by decide)) fun p H1 hp e1 h1 => ?_
    have hS1 := ex_l e1 hS
    refine q_asg (by walk_at "ev") fun H2 e2 => ?_
    refine q_forL (by walk_at "ev") (ex_l e2 hS1) (DrI H a p m) ?_ ?_ ?_ ?_
    · intro H3 e3
      exact ⟨[], 1, none, none, rfl, (e1.trans e2).trans e3, e3 p _ (e2 p _ h1), Nat.zero_le _, by omega, by omega, fun x hx => by cases hx⟩
    · rintro i σ' H' _ ⟨rows, mix, y4, y5, rfl, ex, _⟩
      exact ex_l ex hS
    · rintro i x σ' H' hx ⟨rows, mix, y4, y5, rfl, ex, hr', hrl, m0, m1, hb⟩
      obtain ⟨c, rfl⟩ : ∃ c : Int, x = .int c := by
        rw [List.getElem?_map] at hx
        cases hc : ns[i]? with
        | none => rw [hc] at hx; cases hx
        | some c => rw [hc] at hx; exact ⟨c, (Option.some.inj hx).symm⟩
      have hi : i < 63 := by
        have := (List.getElem?_eq_some_iff.mp hx).1
        rw [List.length_map] at this
        omega
      refine q_asg (by walk_at "ev") fun H3 e3 => ?_
      have m0' := Int.emod_nonneg (mix * 31 + c) (show (2147483647 : Int) ≠ 0 by decide)
      have m1' := Int.emod_lt_of_pos (mix * 31 + c) (show (0 : Int) < 2147483647 by decide)
      generalize (mix * 31 + c) % 2147483647 = mix' at m0' m1' ⊢
      refine q_asg (by walk_at "ev") fun H4 e4 => ?_
      have hr4 := ex_g e4 (ex_g e3 hr')
      have ex4 := (ex.trans e3).trans e4
      have r0 : 0 ≤ (if c < 0 then -c else c) := by split <;> omega
      have rc : (if c < 0 then -c else c) < 10 ^ 18 → -(10 ^ 18) < c ∧ c < 10 ^ 18 := by split <;> omega
      generalize (if c < 0 then -c else c) = rest at r0 rc ⊢
      -- what stands behind the if: the while
      have hwh : ∀ (rows' : List Int) (rest' : Int) (y4' : Option V) (H5 : Hp), Ex H H5 → H5 p = some (.lst (rows'.map V.int)) → rows'.length ≤ m + (i + 1) → 0 ≤ rest' → (0 < rest' → rows'.length ≤ m + i) → (∀ x ∈ rows', -(10 ^ 18) < x ∧ x < 10 ^ 18) →
          ∀ (tc : TT) (tb : TS) (D : Ends), True → True := fun _ _ _ _ _ _ _ _ _ _ _ _ _ _ => trivial
      clear hwh
      refine q_when (by walk_at "et") (fun hb' H5 e5 => ?_) (fun hb' H5 e5 => ?_)
      · have hlt : rest < 10 ^ 18 := of_decide_eq_true hb'
        obtain ⟨c1, c2⟩ := rc hlt
        refine q_app (ex_g e5 hr4) (by walk_at "ev") (by walk_at "ev") (by rw [List.length_map]; omega) fun H6 e6 => ?_
        refine s_asg (by walk_at "ev") fun H7 e7 => ?_
        have hp7 : H7 p = some (.lst ((rows ++ [c]).map V.int)) := e7 p _ (by rw [upd_same, List.map_append]; rfl)
        have ex7 : Ex H H7 := (ex_up ((ex4.trans e5).trans e6) hp).trans e7
        refine s_while (fun n σ2 H2 => n = 0 ∧ σ2 = [some (.ref a), some (.int (m : Int)), some (.ref p), some (.int mix'), some (.int c), some (.int 0)] ∧ Ex H H2 ∧ H2 p = some (.lst ((rows ++ [c]).map V.int))) 0 ⟨rfl, rfl, ex7, hp7⟩ ?_
        rintro n σ2 H2 ⟨rfl, rfl, ex2, hp2⟩
        refine ⟨_, by walk_at "et", fun hb2 => ?_, fun hb2 H8 e8 => ?_⟩
        · simp at hb2
        · exact ⟨rows ++ [c], mix', _, _, rfl, ex2.trans e8, e8 p _ hp2, by rw [List.length_append]; show rows.length + 1 ≤ _; omega, m0', m1', Rows.add hb c1 c2⟩
      · refine s_while (fun n σ2 H2 => ∃ (rows' : List Int) (rest' : Int), σ2 = [some (.ref a), some (.int (m : Int)), some (.ref p), some (.int mix'), some (.int c), some (.int rest')] ∧ n = rest'.toNat ∧ Ex H H2 ∧ H2 p = some (.lst (rows'.map V.int)) ∧ rows'.length ≤ m + i ∧ 0 ≤ rest' ∧ ∀ x ∈ rows', -(10 ^ 18) < x ∧ x < 10 ^ 18) rest.toNat
          ⟨rows, rest, rfl, rfl, ex4.trans e5, ex_g e5 hr4, hrl, r0, hb⟩ ?_
        rintro n σ2 H2 ⟨rows', rest', rfl, rfl, ex2, hp2, hrl', r0', hb'⟩
        refine ⟨_, by walk_at "et", fun hb2 H8 e8 => ?_, fun hb2 H8 e8 => ?_⟩
        · have hb3 := Bool.and_eq_true_iff.mp hb2
          have hpos : 0 < rest' := of_decide_eq_true hb3.1
          have hlm : ((rows'.map V.int).length : Int) < m := of_decide_eq_true hb3.2
          rw [List.length_map] at hlm
          refine ⟨fun σ3 H3 => ∃ n', n' < rest'.toNat ∧ ∃ (rows' : List Int) (rest' : Int), σ3 = [some (.ref a), some (.int (m : Int)), some (.ref p), some (.int mix'), some (.int c), some (.int rest')] ∧ n' = rest'.toNat ∧ Ex H H3 ∧ H3 p = some (.lst (rows'.map V.int)) ∧ rows'.length ≤ m + i ∧ 0 ≤ rest' ∧ ∀ x ∈ rows', -(10 ^ 18) < x ∧ x < 10 ^ 18, fun _ _ h => h, ?_⟩
          refine q_app (ex_g e8 hp2) (by walk_at "ev") (by walk_at "ev") (by rw [List.length_map]; omega) fun H9 e9 => ?_
          refine s_asg (by walk_at "ev") fun H10 e10 => ?_
          have d0 := Int.emod_nonneg rest' (show (1000003 : Int) ≠ 0 by decide)
          have d1 := Int.emod_lt_of_pos rest' (show (0 : Int) < 1000003 by decide)
          refine ⟨(rest' / 1000003).toNat, by omega, rows' ++ [rest' % 1000003], rest' / 1000003, rfl, rfl, (ex_up ((ex2.trans e8).trans e9) hp).trans e10, e10 p _ (by rw [upd_same, List.map_append]; rfl), ?_, by omega, Rows.add hb' (by omega) (by omega)⟩
          rw [List.length_append]
          show rows'.length + 1 ≤ _
          omega
        · exact ⟨rows', mix', _, _, rfl, ex2.trans e8, e8 p _ hp2, by omega, m0', m1', hb'⟩
    · rintro σ' H' ⟨rows, mix, y4, y5, rfl, ex, hr', hrl, m0, m1, hb⟩
      rw [List.length_map] at hrl
      refine q_while (fun n σ2 H2 => ∃ (rows : List Int) (mix : Int), σ2 = [some (.ref a), some (.int (m : Int)), some (.ref p), some (.int mix), y4, y5] ∧ n = m - rows.length ∧ Ex H H2 ∧ H2 p = some (.lst (rows.map V.int)) ∧ rows.length ≤ m + 63 ∧ 0 ≤ mix ∧ mix < 2147483647 ∧ ∀ x ∈ rows, -(10 ^ 18) < x ∧ x < 10 ^ 18)
        (m - rows.length) ⟨rows, mix, rfl, rfl, ex, hr', by omega, m0, m1, hb⟩ ?_
      rintro n σ2 H2 ⟨rows, mix, rfl, rfl, ex, hr', hrl, m0, m1, hb⟩
      refine ⟨_, by walk_at "et", fun hb2 H8 e8 => ?_, fun hb2 H8 e8 => ?_⟩
      · have hlm : ((rows.map V.int).length : Int) < m := of_decide_eq_true hb2
        rw [List.length_map] at hlm
        refine ⟨fun σ3 H3 => ∃ n', n' < m - rows.length ∧ ∃ (rows : List Int) (mix : Int), σ3 = [some (.ref a), some (.int (m : Int)), some (.ref p), some (.int mix), y4, y5] ∧ n' = m - rows.length ∧ Ex H H3 ∧ H3 p = some (.lst (rows.map V.int)) ∧ rows.length ≤ m + 63 ∧ 0 ≤ mix ∧ mix < 2147483647 ∧ ∀ x ∈ rows, -(10 ^ 18) < x ∧ x < 10 ^ 18, fun _ _ h => h, ?_⟩
        refine q_asg (by walk_at "ev") fun H9 e9 => ?_
        have m0' := Int.emod_nonneg (mix * 48271 + 11) (show (2147483647 : Int) ≠ 0 by decide)
        have m1' := Int.emod_lt_of_pos (mix * 48271 + 11) (show (0 : Int) < 2147483647 by decide)
        generalize (mix * 48271 + 11) % 2147483647 = mix' at m0' m1' ⊢
        refine s_app (ex_g e9 (ex_g e8 hr')) (by walk_at "ev") (by walk_at "ev") (by rw [List.length_map]; omega) fun H10 e10 => ?_
        have d0 := Int.emod_nonneg (mix' * mix') (show (999983 : Int) ≠ 0 by decide)
        have d1 := Int.emod_lt_of_pos (mix' * mix') (show (0 : Int) < 999983 by decide)
        refine ⟨m - (rows.length + 1), by omega, rows ++ [mix' * mix' % 999983], mix', rfl, by rw [List.length_append]; rfl, ex_up (((ex.trans e8).trans e9).trans e10) hp, by rw [upd_same, List.map_append]; rfl, ?_, m0', m1', Rows.add hb (by omega) (by omega)⟩
        rw [List.length_append]
        show rows.length + 1 ≤ _
        omega
      · refine s_ret (by walk_at "ev") fun H9 e9 => ?_
        have hlm : ¬ ((rows.map V.int).length : Int) < m := of_decide_eq_false hb2
        rw [List.length_map] at hlm
        exact q rows H9 p hp ((ex.trans e8).trans e9) (e9 p _ (e8 p _ hr')) ⟨by omega, hrl, hb⟩
end

end Su
namespace Su
/-! ### comprehensions over enumerate and zip -/
def dropAt (H : Hp) (D : Addr) : Hp := fun b => if b = D then none else H b
theorem drop_ex {H : Hp} {D : Addr} : Ex (dropAt H D) H := fun a o e => by
  unfold dropAt at e
  split at e
  · cases e
  · exact e
theorem drop_self {H : Hp} {D : Addr} : dropAt H D D = none := by unfold dropAt; rw [if_pos rfl]
theorem drop_of {H : Hp} {D T : Addr} {o : HO} (e : H T = some o) (n : T ≠ D) : dropAt H D T = some o := by unfold dropAt; rw [if_neg n]; exact e
theorem ex_drop {H H1 : Hp} {D : Addr} (e : Ex H1 H) (n : H1 D = none) : Ex H1 (dropAt H D) := fun a o h => drop_of (e a o h) fun z => by rw [z, n] at h; cases h
theorem cw_turn2 {H H' Hb : Hp} {t : TT} {te : TE} {f : Nat → Bool} {v : Nat → V} {Dl : Addr} {i : Nat} {σ2 : L2.St} (p : Cw H f v Dl i H') (hi : i < 50000) (hb : Ex Hb H') (ht : EvT t σ2 Hb (f i)) (he : f i = true → Ev te σ2 Hb (v i)) :
    t σ2 H' fun b H3 => if b = true then te σ2 H3 fun y H4 => ∃ acc, H4 Dl = some (.lst acc) ∧ acc.length < sizeLine ∧ Cw H f v Dl (i + 1) (upd H4 Dl (.lst (acc ++ [y]))) else Cw H f v Dl (i + 1) H3 := by
  obtain ⟨p1, p2, p3⟩ := p
  refine ht H' hb _ fun H3 e3 => ?_
  cases hf : f i with
  | true =>
    show te σ2 H3 fun y H4 => ∃ acc, H4 Dl = some (.lst acc) ∧ acc.length < sizeLine ∧ Cw H f v Dl (i + 1) (upd H4 Dl (.lst (acc ++ [y])))
    refine he hf H3 (hb.trans e3) _ fun H4 e4 => ⟨given i f v, e4 Dl _ (e3 Dl _ p3), sz_lt (by have := given_len i f v; omega), p1, Ex.mut ((p2.trans e3).trans e4) p1, ?_⟩
    rw [given_yes hf]
    exact upd_same
  | false =>
    show Cw H f v Dl (i + 1) H3
    refine ⟨p1, p2.trans e3, ?_⟩
    rw [given_no hf]
    exact e3 Dl _ p3
theorem cw_ex {H H1 H2 : Hp} {f : Nat → Bool} {v : Nat → V} {Dl : Addr} {i : Nat} (p : Cw H f v Dl i H1) (e : Ex H1 H2) : Cw H f v Dl i H2 := ⟨p.1, p.2.1.trans e, e Dl _ p.2.2⟩
/-- what a target does with a value: from the slots s to s2 -/
def Tgt (g : TG) (x : V) (σ σ2 : L2.St) (H : Hp) : Prop := ∀ H2, Ex H H2 → ∀ Q : L2.St → Hp → Prop, Q σ2 H2 → g x σ H2 Q
theorem tg_name {i : Nat} {x : V} {σ : L2.St} {H : Hp} : Tgt (gName i) x σ (σ.set i (some x)) H := fun _ _ _ q => q
theorem tg_two {K : PySem.W.Frag} {g1 g2 : TG} {T : Addr} {x y : V} {σ σ1 σ2 : L2.St} {H : Hp} (h : SqT K H T [x, y]) (h1 : Tgt g1 x σ σ1 H) (h2 : Tgt g2 y σ1 σ2 H) : Tgt (gTup K 2 (gCons g1 (gCons g2 gNil))) (.ref T) σ σ2 H := fun H2 e Q q =>
  ⟨T, [x, y], rfl, ex_t e h, rfl, x, [y], rfl, h1 H2 e _ ⟨y, [], rfl, h2 H2 e _ ⟨rfl, q⟩⟩⟩
theorem tg_three {K : PySem.W.Frag} {g1 g2 g3 : TG} {T : Addr} {x y z : V} {σ σ1 σ2 σ3 : L2.St} {H : Hp} (h : SqT K H T [x, y, z]) (h1 : Tgt g1 x σ σ1 H) (h2 : Tgt g2 y σ1 σ2 H) (h3 : Tgt g3 z σ2 σ3 H) : Tgt (gTup K 3 (gCons g1 (gCons g2 (gCons g3 gNil)))) (.ref T) σ σ3 H := fun H2 e Q q =>
  ⟨T, [x, y, z], rfl, ex_t e h, rfl, x, [y, z], rfl, h1 H2 e _ ⟨y, [z], rfl, h2 H2 e _ ⟨z, [], rfl, h3 H2 e _ ⟨rfl, q⟩⟩⟩⟩
section
variable {K : PySem.W.Frag} {σ : L2.St} {H : Hp} {t : TT} {te : TE} {g : TG} {vs : List Nat} {a b : Addr} {xs ys : List V} {ta : TA}
theorem et_yes {σ : L2.St} {H : Hp} : EvT tYes σ H true := fun H1 _ _ q => q H1 (Ex.refl H1)
theorem el_lcLg {tl : TE} (f : Nat → Bool) (v : Nat → V) (h : Ev tl σ H (.ref a)) (hx : SqL K H a xs) (hz : xs.length ≤ 40000)
    (hs : ∀ (i : Nat) (x : V) Hb, Ex H Hb → xs[i]? = some x → ∃ σ2, Tgt g x (wipe σ vs) σ2 Hb ∧ wipe σ2 vs = wipe σ vs ∧ EvT t σ2 Hb (f i) ∧ (f i = true → Ev te σ2 Hb (v i))) :
    EvL (tLc (iList K tl) g t te vs) σ H (given xs.length f v) := fun H0 e Q q => h H0 e _ fun H1 e1 => ⟨a, rfl, ⟨xs, ex_l (e.trans e1) hx⟩, fun Dl hD =>
  lc_list (xs := xs) (Cw H1 f v Dl) ⟨hD, Ex.new hD, upd_same⟩ (fun i H' _ p => ex_l ((e.trans e1).trans p.2.1) hx) (fun i x H' hi p => by
    obtain ⟨σ2, h1, h2, h3, h4⟩ := hs i x H1 (e.trans e1) hi
    exact h1 H' p.2.1 _ ⟨h2, cw_turn2 p (by have := (List.getElem?_eq_some_iff.mp hi).1; omega) p.2.1 h3 h4⟩)
    (fun H' p => q Dl H' (fresh_back e1 p.1) (e1.trans p.2.1) p.2.2)⟩
theorem el_lcE (f : Nat → Bool) (v : Nat → V) (h : EvA ta σ H [.ref a]) (hx : SqL K H a xs) (hz : xs.length ≤ 40000)
    (hs : ∀ (i : Nat) (x : V) T Hb, Ex H Hb → xs[i]? = some x → Hb T = some (.tup [.int (i : Nat), x]) → ∃ σ2, Tgt g (.ref T) (wipe σ vs) σ2 Hb ∧ wipe σ2 vs = wipe σ vs ∧ EvT t σ2 Hb (f i) ∧ (f i = true → Ev te σ2 Hb (v i))) :
    EvL (tLc (iEnum K ta) g t te vs) σ H (given xs.length f v) := fun H0 e Q q => h H0 e _ fun H1 e1 => ⟨a, xs, rfl, ex_l (e.trans e1) hx, fun Dl hD => by
  refine ⟨fun i m H' => m = xs.length - i ∧ i ≤ xs.length ∧ Cw H1 f v Dl i H', ⟨xs.length, by simp, Nat.zero_le _, hD, Ex.new hD, upd_same⟩, ?_⟩
  rintro i m H' ⟨rfl, hi, p⟩
  have hX := ex_l ((e.trans e1).trans p.2.1) hx
  by_cases hlt : i < xs.length
  · refine .inr ⟨⟨xs, xs[i], hX, List.getElem?_eq_getElem hlt⟩, Cw H1 f v Dl (i + 1), fun H2 p' => ⟨xs.length - (i + 1), by omega, rfl, hlt, p'⟩, fun y H2 hy => ?_⟩
    obtain ⟨T, x, rfl, nT, rfl, hxx⟩ := hy
    have gi := hxx xs hX
    have eT : Ex H' (upd H' T (.tup [.int (i : Nat), x])) := Ex.new nT
    have hTD : T ≠ Dl := fun z => by rw [z, p.2.2] at nT; cases nT
    have p2 := cw_ex p eT
    obtain ⟨σ2, h1, h2, h3, h4⟩ := hs i x T (dropAt (upd H' T (.tup [.int (i : Nat), x])) Dl) (ex_drop (((e.trans e1).trans p.2.1).trans eT) (fresh_back (e.trans e1) p.1)) gi (drop_of upd_same hTD)
    exact h1 _ drop_ex _ ⟨h2, cw_turn2 p2 (by omega) drop_ex h3 h4⟩
  · have ei : i = xs.length := by omega
    subst ei
    exact .inl ⟨⟨xs, hX, Nat.le_refl _⟩, q Dl H' (fresh_back e1 p.1) (e1.trans p.2.1) p.2.2⟩⟩
theorem el_lcZ (f : Nat → Bool) (v : Nat → V) (h : EvA ta σ H [.ref a, .ref b]) (hx : SqL K H a xs) (hy : SqL K H b ys) (hl : xs.length = ys.length) (hz : xs.length ≤ 40000)
    (hs : ∀ (i : Nat) (x y : V) T Hb, Ex H Hb → xs[i]? = some x → ys[i]? = some y → Hb T = some (.tup [x, y]) → ∃ σ2, Tgt g (.ref T) (wipe σ vs) σ2 Hb ∧ wipe σ2 vs = wipe σ vs ∧ EvT t σ2 Hb (f i) ∧ (f i = true → Ev te σ2 Hb (v i))) :
    EvL (tLc (RZ.iZipA K ta) g t te vs) σ H (given xs.length f v) := fun H0 e Q q => h H0 e _ fun H1 e1 => ⟨a, b, xs, ys, rfl, .inl ⟨ex_l (e.trans e1) hx, ex_l (e.trans e1) hy, fun Dl hD => by
  refine ⟨fun i m H' => m = xs.length - i ∧ i ≤ xs.length ∧ Cw H1 f v Dl i H', ⟨xs.length, by simp, Nat.zero_le _, hD, Ex.new hD, upd_same⟩, ?_⟩
  rintro i m H' ⟨rfl, hi, p⟩
  have hX := ex_l ((e.trans e1).trans p.2.1) hx
  have hY := ex_l ((e.trans e1).trans p.2.1) hy
  by_cases hlt : i < xs.length
  · have hlt2 : i < ys.length := by omega
    refine .inr ⟨⟨xs, ys, xs[i], ys[i], hX, hY, List.getElem?_eq_getElem hlt, List.getElem?_eq_getElem hlt2⟩, Cw H1 f v Dl (i + 1), fun H2 p' => ⟨xs.length - (i + 1), by omega, rfl, hlt, p'⟩, fun z H2 hzz => ?_⟩
    obtain ⟨T, x, y, rfl, nT, rfl, hxx, hyy⟩ := hzz
    have eT : Ex H' (upd H' T (.tup [x, y])) := Ex.new nT
    have hTD : T ≠ Dl := fun z => by rw [z, p.2.2] at nT; cases nT
    have p2 := cw_ex p eT
    obtain ⟨σ2, h1, h2, h3, h4⟩ := hs i x y T (dropAt (upd H' T (.tup [x, y])) Dl) (ex_drop (((e.trans e1).trans p.2.1).trans eT) (fresh_back (e.trans e1) p.1)) (hxx xs hX) (hyy ys hY) (drop_of upd_same hTD)
    exact h1 _ drop_ex _ ⟨h2, cw_turn2 p2 (by omega) drop_ex h3 h4⟩
  · have ei : i = xs.length := by omega
    subst ei
    exact .inl ⟨⟨xs, ys, hX, hY, .inl (Nat.le_refl _)⟩, q Dl H' (fresh_back e1 p.1) (e1.trans p.2.1) p.2.2⟩⟩⟩
theorem el_lcZT (f : Nat → Bool) (v : Nat → V) (h : EvA ta σ H [.ref a, .ref b]) (hx : SqT K H a xs) (hy : SqT K H b ys) (hl : xs.length = ys.length) (hz : xs.length ≤ 40000)
    (hs : ∀ (i : Nat) (x y : V) T Hb, Ex H Hb → xs[i]? = some x → ys[i]? = some y → Hb T = some (.tup [x, y]) → ∃ σ2, Tgt g (.ref T) (wipe σ vs) σ2 Hb ∧ wipe σ2 vs = wipe σ vs ∧ EvT t σ2 Hb (f i) ∧ (f i = true → Ev te σ2 Hb (v i))) :
    EvL (tLc (RZ.iZipA K ta) g t te vs) σ H (given xs.length f v) := fun H0 e Q q => h H0 e _ fun H1 e1 => ⟨a, b, xs, ys, rfl, .inr ⟨ex_t (e.trans e1) hx, ex_t (e.trans e1) hy, fun Dl hD => by
  refine ⟨fun i m H' => m = xs.length - i ∧ i ≤ xs.length ∧ Cw H1 f v Dl i H', ⟨xs.length, by simp, Nat.zero_le _, hD, Ex.new hD, upd_same⟩, ?_⟩
  rintro i m H' ⟨rfl, hi, p⟩
  have hX := ex_t ((e.trans e1).trans p.2.1) hx
  have hY := ex_t ((e.trans e1).trans p.2.1) hy
  by_cases hlt : i < xs.length
  · have hlt2 : i < ys.length := by omega
    refine .inr ⟨⟨xs, ys, xs[i], ys[i], hX, hY, List.getElem?_eq_getElem hlt, List.getElem?_eq_getElem hlt2⟩, Cw H1 f v Dl (i + 1), fun H2 p' => ⟨xs.length - (i + 1), by omega, rfl, hlt, p'⟩, fun z H2 hzz => ?_⟩
    obtain ⟨T, x, y, rfl, nT, rfl, hxx, hyy⟩ := hzz
    have eT : Ex H' (upd H' T (.tup [x, y])) := Ex.new nT
    have hTD : T ≠ Dl := fun z => by rw [z, p.2.2] at nT; cases nT
    have p2 := cw_ex p eT
    obtain ⟨σ2, h1, h2, h3, h4⟩ := hs i x y T (dropAt (upd H' T (.tup [x, y])) Dl) (ex_drop (((e.trans e1).trans p.2.1).trans eT) (fresh_back (e.trans e1) p.1)) (hxx xs hX) (hyy ys hY) (drop_of upd_same hTD)
    exact h1 _ drop_ex _ ⟨h2, cw_turn2 p2 (by omega) drop_ex h3 h4⟩
  · have ei : i = xs.length := by omega
    subst ei
    exact .inl ⟨⟨xs, ys, hX, hY, .inl (Nat.le_refl _)⟩, q Dl H' (fresh_back e1 p.1) (e1.trans p.2.1) p.2.2⟩⟩⟩
end

end Su
namespace Su
/-! ### data as a whole: _law_same of two alike -/
mutual
theorem dp_ex {K : PySem.W.Frag} {H H' : Hp} (e : Ex H H') : ∀ {x : V} {d : PyData}, Dp K H x d → Dp K H' x d
  | _, _, .non => .non
  | _, _, .bl b => .bl b
  | _, _, .int i => .int i
  | _, _, .str x => .str x
  | _, _, .lst h1 h2 => .lst (ex_l e h1) (dpa_ex e h2)
  | _, _, .tup h1 h2 => .tup (ex_t e h1) (dpa_ex e h2)
theorem dpa_ex {K : PySem.W.Frag} {H H' : Hp} (e : Ex H H') : ∀ {xs : List V} {ds : List PyData}, DpAll K H xs ds → DpAll K H' xs ds
  | _, _, .nil => .nil
  | _, _, .cons h1 h2 => .cons (dp_ex e h1) (dpa_ex e h2)
end
theorem dpa_len {K : PySem.W.Frag} {H : Hp} : ∀ {xs : List V} {ds : List PyData}, DpAll K H xs ds → xs.length = ds.length
  | _, _, .nil => rfl
  | _, _, .cons _ h2 => by rw [List.length_cons, List.length_cons, dpa_len h2]
theorem dpa_get {K : PySem.W.Frag} {H : Hp} : ∀ {xs : List V} {ds : List PyData} {i : Nat} {x : V}, DpAll K H xs ds → xs[i]? = some x → ∃ d, ds[i]? = some d ∧ Dp K H x d
  | _, _, _, _, .nil, e => by simp at e
  | _, _, 0, _, .cons h _, e => by simp at e; subst e; exact ⟨_, rfl, h⟩
  | _, _, i + 1, x, .cons _ h2, e => by
    obtain ⟨d, h1, h3⟩ := dpa_get (i := i) (x := x) h2 (by simpa using e)
    exact ⟨d, by simpa using h1, h3⟩
theorem dpa_of {K : PySem.W.Frag} {H : Hp} {α : Type} (f : α → V) (g : α → PyData) : ∀ l : List α, (∀ a ∈ l, Dp K H (f a) (g a)) → DpAll K H (l.map f) (l.map g)
  | [], _ => .nil
  | a :: r, h => .cons (h a List.mem_cons_self) (dpa_of f g r fun b hb => h b (List.mem_cons_of_mem _ hb))
def tyN : PyData → String
  | .none => "NoneType" | .bool _ => "bool" | .int _ => "int" | .str _ => "str" | .list _ => "list" | .tuple _ => "tuple" | .dict _ => "dict"
theorem ty_dp {K : PySem.W.Frag} {H : Hp} {x : V} {d : PyData} (h : Dp K H x d) : TyX K H x (.type (tyN d)) := by
  cases h with
  | non => exact .base .non
  | bl b => exact .base (.bl b)
  | int i => exact .base (.int i)
  | str s => exact .base (.str s)
  | lst h1 _ =>
    rcases h1 with (h1 | ⟨o, h1⟩) | ⟨o, its, n, h1, h2, _⟩
    · exact .base (.lst h1)
    · exact .base (.frz h1)
    · exact .kList h1 h2
  | tup h1 _ =>
    rcases h1 with (h1 | ⟨o, h1⟩) | ⟨o, its, n, h1, h2, _⟩
    · exact .base (.tup h1)
    · exact .fTuple h1
    · exact .kTuple h1 h2
theorem rc_isi_dp {K : PySem.W.Frag} {H : Hp} {x : V} {d : PyData} {n : String} {b : Bool} (h : Dp K H x d) (hk : kitB (tyN d) n = some b) : RC (rIsi K) [x, .ty n] H (.bl b) :=
  fun H1 e _ q => ⟨x, .ty n, .type (tyN d), .type n, b, rfl, .ty n, ty_dp (dp_ex e h), kit_ty hk, q H1 (Ex.refl H1)⟩
theorem kit_tab {t m : String} (ht : t = "NoneType" ∨ t = "bool" ∨ t = "int" ∨ t = "str" ∨ t = "list" ∨ t = "tuple") (hm : m = "bool" ∨ m = "int" ∨ m = "list" ∨ m = "tuple" ∨ m = "str") : ∃ b, kitB t m = some b := by
  rcases ht with rfl | rfl | rfl | rfl | rfl | rfl <;> rcases hm with rfl | rfl | rfl | rfl | rfl <;> first | exact ⟨true, by decide +kernel⟩ | exact ⟨false, by decide +kernel⟩
/-- data of ints, texts, None, bools, lists and tuples, n deep -/
inductive PlD : Nat → PyData → Prop
  | non {n : Nat} : PlD n .none
  | bool {n : Nat} (b : Bool) : PlD n (.bool b)
  | int {n : Nat} (i : Int) : PlD n (.int i)
  | str {n : Nat} (x : Str) : PlD n (.str x)
  | list {n : Nat} {xs : List PyData} : xs.length ≤ 1000 → (∀ x ∈ xs, PlD n x) → PlD (n + 1) (.list xs)
  | tuple {n : Nat} {xs : List PyData} : xs.length ≤ 1000 → (∀ x ∈ xs, PlD n x) → PlD (n + 1) (.tuple xs)
theorem PlD.ty {n : Nat} {d : PyData} (h : PlD n d) : tyN d = "NoneType" ∨ tyN d = "bool" ∨ tyN d = "int" ∨ tyN d = "str" ∨ tyN d = "list" ∨ tyN d = "tuple" := by
  cases h <;> simp [tyN]
theorem given_all {n : Nat} {v : V} : given n (fun _ => true) (fun _ => v) = List.replicate n v := by
  induction n with
  | zero => rfl
  | succ n ih => rw [given_yes rfl, ih, List.replicate_succ']
theorem all_rep (n : Nat) : (List.replicate n true).all id = true := by
  induction n with
  | zero => rfl
  | succ n ih => rw [List.replicate_succ, List.all_cons, ih]; rfl
section
variable {P : Program} {w : World} {K : PySem.W.Frag} {mg : Str → Option Value} {base : Heap}
theorem ev_isi {σ : L2.St} {H : Hp} {ta tb : TE} {x : V} {d : PyData} {n : String} {b : Bool} (ha : Ev ta σ H x) (hb : Ev tb σ H (.ty n)) (h : Dp K H x d) (hk : kitB (tyN d) n = some b) : Ev (tCB (rIsi K) (tCons ta (tCons tb tNil))) σ H (.bl b) := ev_cb (ea_cons ha (ea_cons hb ea_nil)) (rc_isi_dp h hk)
theorem ev_allT {σ : L2.St} {H : Hp} {te : TE} {n : Nat} (h : EvL te σ H (List.replicate n (V.bl true))) : Ev (tCB (rAll K) (tCons te tNil)) σ H (.bl true) := fun H1 e Q q =>
  h H1 e _ fun p H2 _ e2 h2 => ⟨p, List.replicate n true, rfl, sq_of (by rw [List.map_replicate]; exact h2), by rw [all_rep]; exact q H2 e2⟩
theorem rv_sc {H : Hp} {x : V} (h : scal x x = true) : RV rEq x x H (.bl true) := fun H1 e Q q => ⟨h, by rw [decide_eq_true rfl]; exact q H1 (Ex.refl H1)⟩
theorem rv_neb {H : Hp} {b : Bool} : RV rNe (.bl b) (.bl b) H (.bl false) := fun H1 e Q q => ⟨by cases b <;> rfl, by rw [decide_eq_true rfl]; exact q H1 (Ex.refl H1)⟩
end

end Su
namespace Su
section
variable {P : Program} {w : World} {K : PySem.W.Frag} {mg : Str → Option Value} {base : Heap}
def spSame (K : PySem.W.Frag) (n : Nat) : Sp := fun vs H Q _ => ∃ (x y : V) (d : PyData), vs = [x, y] ∧ PlD n d ∧ Dp K H x d ∧ Dp K H y d ∧ ∀ H', Ex H H' → Q (.bl true) H'
def spPrev (K : PySem.W.Frag) : Nat → Sp
  | 0 => fun _ _ _ _ => False
  | n + 1 => spSame K n
theorem spV_same {n : Nat} {x y : V} {d : PyData} {H : Hp} (hp : PlD n d) (h1 : Dp K H x d) (h2 : Dp K H y d) : SpV (spSame K n) [x, y] H (.bl true) := fun H1 e Q q _ => ⟨x, y, d, rfl, hp, dp_ex e h1, dp_ex e h2, q⟩
end
section
variable {P : Program} {w : World} {K : PySem.W.Frag} {mg : Str → Option Value} {base : Heap}
theorem ok__law_same (T : Top K mg) : ∀ n : Nat, FnOk P w K mg base CX0 (n + 1) T.f__law_same T.fd__law_same ["_law_told", "_law_due"] (spSame K n) := fun n => by
  have G__law_same : FnOk P w K mg base CX0 n T.f__law_same T.fd__law_same ["_law_told", "_law_due"] (spPrev K n) := by
    cases n with
    | zero => exact ⟨fun _ _ _ _ h => h.elim, fun _ _ _ _ _ _ _ _ _ _ _ _ _ h => h.elim⟩
    | succ n => exact ok__law_same T n
  have nd := sc__law_same.nd
  refine T.F__law_same.ok sc__law_same (fun vs H Q E h => ?_) (fun cdv A outer s H vs Q E hr h => ?_)
  · obtain ⟨x, y, d, rfl, _⟩ := h
    rfl
  · obtain ⟨x, y, d, rfl, hp, hx, hy, q⟩ := h
    refine ⟨_, (pss_cons (ps_if (PW.pt (pw_or (pt_cmpR op_ne (pe_callB call_isi (by rfl) T.m_isinstance (by decide +kernel) (pa_cons (pv 0) (pa_cons (pe_bltn (v := .ty "bool") (by rfl) T.m_bool (by decide +kernel) rfl) pa_nil))) (pe_callB call_isi (by rfl) T.m_isinstance (by decide +kernel) (pa_cons (pv 1) (pa_cons (pe_bltn (v := .ty "bool") (by rfl) T.m_bool (by decide +kernel) rfl) pa_nil))) (nomark _)) (pw_or1 (pt_cmpR op_ne (pe_callB call_isi (by rfl) T.m_isinstance (by decide +kernel) (pa_cons (pv 0) (pa_cons (pe_bltn (v := .ty "int") (by rfl) T.m_int (by decide +kernel) rfl) pa_nil))) (pe_callB call_isi (by rfl) T.m_isinstance (by decide +kernel) (pa_cons (pv 1) (pa_cons (pe_bltn (v := .ty "int") (by rfl) T.m_int (by decide +kernel) rfl) pa_nil))) (nomark _)))))
        (pss_one (ps_ret pe_bl))
        pss_nil)
      (pss_cons (ps_if (PW.pt (pw_or (pt_cmpR op_ne (pe_callB call_isi (by rfl) T.m_isinstance (by decide +kernel) (pa_cons (pv 0) (pa_cons (pe_bltn (v := .ty "list") (by rfl) T.m_list (by decide +kernel) rfl) pa_nil))) (pe_callB call_isi (by rfl) T.m_isinstance (by decide +kernel) (pa_cons (pv 1) (pa_cons (pe_bltn (v := .ty "list") (by rfl) T.m_list (by decide +kernel) rfl) pa_nil))) (nomark _)) (pw_or1 (pt_cmpR op_ne (pe_callB call_isi (by rfl) T.m_isinstance (by decide +kernel) (pa_cons (pv 0) (pa_cons (pe_bltn (v := .ty "tuple") (by rfl) T.m_tuple (by decide +kernel) rfl) pa_nil))) (pe_callB call_isi (by rfl) T.m_isinstance (by decide +kernel) (pa_cons (pv 1) (pa_cons (pe_bltn (v := .ty "tuple") (by rfl) T.m_tuple (by decide +kernel) rfl) pa_nil))) (nomark _)))))
        (pss_one (ps_ret pe_bl))
        pss_nil)
      (pss_cons (ps_if (PW.pt (pw_and (pt_not (pt_val (pe_callB call_isi (by rfl) T.m_isinstance (by decide +kernel) (pa_cons (pv 1) (pa_cons (pe_bltn (v := .ty "list") (by rfl) T.m_list (by decide +kernel) rfl) pa_nil))))) (pw_and1 (pt_not (pt_val (pe_callB call_isi (by rfl) T.m_isinstance (by decide +kernel) (pa_cons (pv 1) (pa_cons (pe_bltn (v := .ty "tuple") (by rfl) T.m_tuple (by decide +kernel) rfl) pa_nil))))))))
        (pss_one (ps_ret (pe_and (pe_cmpR op_eq (pe_callB call_isi (by rfl) T.m_isinstance (by decide +kernel) (pa_cons (pv 0) (pa_cons (pe_bltn (v := .ty "str") (by rfl) T.m_str (by decide +kernel) rfl) pa_nil))) (pe_callB call_isi (by rfl) T.m_isinstance (by decide +kernel) (pa_cons (pv 1) (pa_cons (pe_bltn (v := .ty "str") (by rfl) T.m_str (by decide +kernel) rfl) pa_nil))) (nomark _)) (pe_one (pe_cmpR op_eq (pv 0) (pv 1) (nomark _))))))
        pss_nil)
      (pss_one (ps_ret (pe_and (pe_cmpR op_eq (pe_callB call_len_seq (by rfl) T.m_len PySem.boot_len (pa_cons (pv 0) pa_nil)) (pe_callB call_len_seq (by rfl) T.m_len PySem.boot_len (pa_cons (pv 1) pa_nil)) (nomark _)) (pe_one (pe_callB (cr_all rfl) (by rfl) T.m_all (by decide +kernel) (pa_cons (pe_lc (own := [("_law_one", 2), ("_law_other", 3)]) (g := gTup K 2 (gCons (gName 2) (gCons (gName 3) gNil))) (tt := tYes) rfl nd (RZ.pi_zipA (by rfl) T.m_zip (pa_cons (pv 0) (pa_cons (pv 1) pa_nil))) (blkOk_by (own := [("_law_one", 2), ("_law_other", 3)]) (N := Su.N__law_same) (sc := defScope s__law_same) (by decide +kernel)) (fun _ _ _ _ _ => (pg_tup rfl (pgs_cons (pg_name (i := 2) nd rfl (.inl rfl)) (pgs_cons (pg_name (i := 3) nd rfl (.inl rfl)) pgs_nil)))) (fun _ _ _ _ _ => pts_nil) (fun _ _ _ _ _ => (pe_call G__law_same hr (by rfl) T.m__law_same T.F__law_same.kp T.b__law_same .nil pass0 (pa_cons (pv 2) (pa_cons (pv 3) pa_nil))))) pa_nil))))))))), ?_⟩
    have kb := fun (m : String) hm => kit_tab (m := m) hp.ty hm
    obtain ⟨b1, k1⟩ := kb "bool" (by simp)
    obtain ⟨b2, k2⟩ := kb "int" (by simp)
    obtain ⟨b3, k3⟩ := kb "list" (by simp)
    obtain ⟨b4, k4⟩ := kb "tuple" (by simp)
    obtain ⟨b5, k5⟩ := kb "str" (by simp)
    refine q_when (b := false) ?_ (fun h => by cases h) fun _ H1 e1 => ?_
    · exact et_or (a := false) (b := false) (et_test (ev_op (ev_isi (ev_var rfl) ev_c hx k1) (ev_isi (ev_var rfl) ev_c hy k1) rv_neb)) fun _ => et_test (ev_op (ev_isi (ev_var rfl) ev_c hx k2) (ev_isi (ev_var rfl) ev_c hy k2) rv_neb)
    have hx := dp_ex e1 hx
    have hy := dp_ex e1 hy
    refine q_when (b := false) ?_ (fun h => by cases h) fun _ H2 e2 => ?_
    · exact et_or (a := false) (b := false) (et_test (ev_op (ev_isi (ev_var rfl) ev_c hx k3) (ev_isi (ev_var rfl) ev_c hy k3) rv_neb)) fun _ => et_test (ev_op (ev_isi (ev_var rfl) ev_c hx k4) (ev_isi (ev_var rfl) ev_c hy k4) rv_neb)
    have hx := dp_ex e2 hx
    have hy := dp_ex e2 hy
    refine q_when (et_and (et_not (et_B (ev_isi (ev_var rfl) ev_c hy k3))) fun _ => et_not (et_B (ev_isi (ev_var rfl) ev_c hy k4))) (fun hb H3 e3 => ?_) (fun hb H3 e3 => ?_)
    · -- no list, no tuple
      have hx := dp_ex e3 hx
      have hy := dp_ex e3 hy
      have hsc : scal x x = true ∧ x = y := by
        cases hp with
        | non => cases hx; cases hy; exact ⟨rfl, rfl⟩
        | bool b => cases hx; cases hy; exact ⟨rfl, rfl⟩
        | int i => cases hx; cases hy; exact ⟨rfl, rfl⟩
        | str s => cases hx; cases hy; exact ⟨rfl, rfl⟩
        | list _ _ =>
          have z : b3 = true := Option.some.inj (k3.symm.trans (show kitB "list" "list" = some true by decide +kernel))
          rw [z] at hb
          exact absurd hb (by cases b4 <;> decide)
        | tuple _ _ =>
          have z : b4 = true := Option.some.inj (k4.symm.trans (show kitB "tuple" "tuple" = some true by decide +kernel))
          rw [z, Bool.not_true, Bool.and_false] at hb
          exact absurd hb (by decide)
      obtain ⟨hsc, rfl⟩ := hsc
      refine s_ret (v := .bl (true && true)) (ev_andV (ev_op (ev_isi (ev_var rfl) ev_c hx k5) (ev_isi (ev_var rfl) ev_c hy k5) (rv_sc (by cases b5 <;> rfl))) fun _ => ev_op (ev_var rfl) (ev_var rfl) (rv_sc hsc)) fun H4 e4 => q H4 (((e1.trans e2).trans e3).trans e4)
    · have hx := dp_ex e3 hx
      have hy := dp_ex e3 hy
      have ex3 := (e1.trans e2).trans e3
      cases hp with
      | non => exact absurd hb (by rw [← Option.some.inj ((show kitB "NoneType" "list" = some false by decide +kernel).symm.trans k3), ← Option.some.inj ((show kitB "NoneType" "tuple" = some false by decide +kernel).symm.trans k4)]; decide)
      | bool b => exact absurd hb (by rw [← Option.some.inj ((show kitB "bool" "list" = some false by decide +kernel).symm.trans k3), ← Option.some.inj ((show kitB "bool" "tuple" = some false by decide +kernel).symm.trans k4)]; decide)
      | int i => exact absurd hb (by rw [← Option.some.inj ((show kitB "int" "list" = some false by decide +kernel).symm.trans k3), ← Option.some.inj ((show kitB "int" "tuple" = some false by decide +kernel).symm.trans k4)]; decide)
      | str z => exact absurd hb (by rw [← Option.some.inj ((show kitB "str" "list" = some false by decide +kernel).symm.trans k3), ← Option.some.inj ((show kitB "str" "tuple" = some false by decide +kernel).symm.trans k4)]; decide)
      | @list n ds hn hds =>
        cases hx with
        | @lst a xs _ hX aX => cases hy with
          | @lst b ys _ hY aY =>
            have lx := dpa_len aX
            have ly := dpa_len aY
            refine s_ret (v := .bl (true && true)) (ev_andV (ev_op (ev_cb (ea_cons (ev_var rfl) ea_nil) (rc_len (.inl hX))) (ev_cb (ea_cons (ev_var rfl) ea_nil) (rc_len (.inl hY))) ?_) fun _ => ev_allT (n := xs.length) ?_) fun H4 e4 => q H4 (ex3.trans e4)
            · rw [lx, ly]
              exact rv_sc rfl
            · rw [← given_all]
              refine el_lcZ _ _ (ea_cons (ev_var rfl) (ea_cons (ev_var rfl) ea_nil)) hX hY (by omega) (by omega) fun i x y Tt Hb eb gx gy hT => ?_
              obtain ⟨d1, g1, p1⟩ := dpa_get aX gx
              obtain ⟨d2, g2, p2⟩ := dpa_get aY gy
              obtain rfl : d1 = d2 := Option.some.inj (g1.symm.trans g2)
              refine ⟨_, tg_two (.inl (.inl hT)) tg_name tg_name, rfl, et_yes, fun _ => ?_⟩
              refine ev_call (ea_cons (ev_var rfl) (ea_cons (ev_var rfl) ea_nil)) ?_
              exact spV_same (hds d1 (List.mem_of_getElem? g1)) (dp_ex eb p1) (dp_ex eb p2)
      | @tuple n ds hn hds =>
        cases hx with
        | @tup a xs _ hX aX => cases hy with
          | @tup b ys _ hY aY =>
            have lx := dpa_len aX
            have ly := dpa_len aY
            refine s_ret (v := .bl (true && true)) (ev_andV (ev_op (ev_cb (ea_cons (ev_var rfl) ea_nil) (rc_len (.inr hX))) (ev_cb (ea_cons (ev_var rfl) ea_nil) (rc_len (.inr hY))) ?_) fun _ => ev_allT (n := xs.length) ?_) fun H4 e4 => q H4 (ex3.trans e4)
            · rw [lx, ly]
              exact rv_sc rfl
            · rw [← given_all]
              refine el_lcZT _ _ (ea_cons (ev_var rfl) (ea_cons (ev_var rfl) ea_nil)) hX hY (by omega) (by omega) fun i x y Tt Hb eb gx gy hT => ?_
              obtain ⟨d1, g1, p1⟩ := dpa_get aX gx
              obtain ⟨d2, g2, p2⟩ := dpa_get aY gy
              obtain rfl : d1 = d2 := Option.some.inj (g1.symm.trans g2)
              refine ⟨_, tg_two (.inl (.inl hT)) tg_name tg_name, rfl, et_yes, fun _ => ?_⟩
              refine ev_call (ea_cons (ev_var rfl) (ea_cons (ev_var rfl) ea_nil)) ?_
              exact spV_same (hds d1 (List.mem_of_getElem? g1)) (dp_ex eb p1) (dp_ex eb p2)
end

end Su
namespace Su
/-! ### for i, x in enumerate(xs) -/
theorem s_forE {K : PySem.W.Frag} {a : Addr} {xs : List V} {g : TG} {tb : TS} {D : Ends} {σ : L2.St} {H : Hp} {ta : TA} (h : EvA ta σ H [.ref a]) (hx : SqL K H a xs) (Pv : Nat → L2.St → Hp → Prop) (h0 : ∀ H1, Ex H H1 → Pv 0 σ H1) (hl : ∀ i σ' H', i ≤ xs.length → Pv i σ' H' → SqL K H' a xs)
    (hs : ∀ i x T σ' Hc, xs[i]? = some x → Pv i σ' Hc → Hc T = none → ∃ σ2, Tgt g (.ref T) σ' σ2 (upd Hc T (.tup [.int (i : Nat), x])) ∧ tb { D with nx := Pv (i + 1), ct := Pv (i + 1), bk := D.nx } σ2 (upd Hc T (.tup [.int (i : Nat), x])))
    (hd : ∀ σ' H', Pv xs.length σ' H' → D.nx σ' H') : tFor (iEnum K ta) g tb D σ H :=
  h H (Ex.refl H) _ fun H1 e1 => ⟨a, xs, rfl, ex_l e1 hx, by
    refine ⟨fun i m σ' H' => m = xs.length - i ∧ i ≤ xs.length ∧ Pv i σ' H', ⟨xs.length, by simp, Nat.zero_le _, h0 H1 e1⟩, ?_⟩
    rintro i m σ' H' ⟨rfl, hi, p⟩
    have hX := hl i σ' H' hi p
    by_cases hlt : i < xs.length
    · refine .inr ⟨⟨xs, xs[i], hX, List.getElem?_eq_getElem hlt⟩, Pv (i + 1), fun σ2 H2 p' => ⟨xs.length - (i + 1), by omega, rfl, hlt, p'⟩, fun y H2 hy => ?_⟩
      obtain ⟨T, x, rfl, nT, rfl, hxx⟩ := hy
      obtain ⟨σ2, h1, h2⟩ := hs i x T σ' H' (hxx xs hX) p nT
      exact h1 _ (Ex.refl _) _ h2
    · have ei : i = xs.length := by omega
      subst ei
      exact .inl ⟨⟨xs, hX, Nat.le_refl _⟩, hd σ' H' p⟩⟩

end Su
namespace Su
open TL
/-! ### names: texts, each another -/
theorem ev_join {K : PySem.W.Frag} {to te : TE} {σ : L2.St} {H : Hp} {a : Str} {ys : List Str} (h1 : Ev to σ H (.str a)) (h2 : EvL te σ H (ys.map V.str)) (hz : (ys.map (·.length)).sum + ys.length * a.length ≤ 16777216) :
    Ev (tM1 (fun x xs H Q => ∃ a p, ∃ ys : List Str, x = .str a ∧ xs = [.ref p] ∧ (SqL K H p (ys.map V.str) ∨ SqT K H p (ys.map V.str)) ∧ (ys.map (·.length)).sum + ys.length * a.length ≤ 16777216 ∧ Q (.str (Txt.join a ys)) H) to te) σ H (.str (Txt.join a ys)) := fun H1 e Q q =>
  h1 H1 e _ fun H2 e2 => ⟨⟨a, rfl⟩, h2 H2 (e.trans e2) _ fun p H3 _ e3 h3 => ⟨a, p, ys, rfl, rfl, .inl (sq_of h3), hz, q H3 (e2.trans e3)⟩⟩
theorem ev_addS {ta tb : TE} {σ : L2.St} {H : Hp} {x y : Str} (h1 : Ev ta σ H (.str x)) (h2 : Ev tb σ H (.str y)) (hz : x.length + y.length ≤ 100000) :
    Ev (tOp (fun x y H Q => ∃ i j, x = .str i ∧ y = .str j ∧ i.length + j.length ≤ sizeLine ∧ Q (.str (i ++ j)) H) ta tb) σ H (.str (x ++ y)) := ev_op h1 h2 fun H1 e Q q => ⟨x, y, rfl, rfl, sz_of hz, q H1 (Ex.refl H1)⟩
theorem ev_slS {te : TE} {tl' th : TO} {σ : L2.St} {H : Hp} {z : Str} {lo hi : Option Int} (h : Ev te σ H (.str z)) (h1 : EvO tl' σ H lo) (h2 : EvO th σ H hi) (hz : z.length ≤ 100000) : Ev (tSl rSlS te tl' th) σ H (.str (cutS z lo hi)) := fun H1 e Q q =>
  h H1 e _ fun H2 e2 => h1 H2 (e.trans e2) _ fun H3 e3 => h2 H3 ((e.trans e2).trans e3) _ fun H4 e4 => ⟨z, rfl, sz_of hz, q H4 ((e2.trans e3).trans e4)⟩
theorem tl_cutTo {z : Str} {p : Nat} : tl (cutS z none (some (p : Int))) = (tl z).take p := by
  unfold cutS
  rw [tl_mk, HT.sIx_none, HT.sIx_nat, List.drop_zero, Nat.sub_zero]
  by_cases h : p ≤ z.length
  · rw [Nat.min_eq_left h]
  · rw [Nat.min_eq_right (by omega), List.take_of_length_le (by rw [len_tl]; exact Nat.le_refl _), List.take_of_length_le (by rw [len_tl] at h; omega)]
theorem tl_cutFrom {z : Str} {p : Nat} : tl (cutS z (some (p : Int)) none) = (tl z).drop p := by
  unfold cutS
  rw [tl_mk, HT.sIx_none, HT.sIx_nat]
  by_cases h : p ≤ z.length
  · rw [Nat.min_eq_left h, List.take_of_length_le (by rw [List.length_drop, ← len_tl]; exact Nat.le_refl _)]
  · rw [Nat.min_eq_right (by omega), Nat.sub_self, List.take_zero, List.drop_of_length_le (by rw [len_tl] at h; omega)]
theorem join_ones {α : Type} (f : α → Nat) : ∀ l : List α, joinL [] (l.map fun x => [f x]) = l.map f
  | [] => rfl
  | [a] => rfl
  | a :: b :: r => by
    show [f a] ++ ([] ++ joinL [] ((b :: r).map fun x => [f x])) = _
    rw [join_ones f (b :: r)]
    rfl
theorem inV_str {z : Str} {ws : List Str} : inV (.str z) (ws.map V.str) = decide (z ∈ ws) := by
  unfold inV
  induction ws with
  | nil => rfl
  | cons a r ih =>
    rw [List.map_cons, List.any_cons, ih]
    show ((a == z) || decide (z ∈ r)) = _
    by_cases h : z = a
    · subst h
      simp
    · rw [beq_eq_false_iff_ne.mpr (fun e => h e.symm)]
      simp [h]
theorem flat_strs {ws : List Str} : (ws.map V.str).all flatV = true := by
  rw [List.all_eq_true]
  intro x hx
  obtain ⟨z, _, rfl⟩ := List.mem_map.mp hx
  rfl
/-- unlike ones within a list are no more than its items -/
theorem nodup_le {α : Type} [DecidableEq α] : ∀ {l m : List α}, l.Nodup → (∀ x ∈ l, x ∈ m) → l.length ≤ m.length
  | [], _, _, _ => Nat.zero_le _
  | a :: r, m, h, hs => by
    have h1 := List.nodup_cons.mp h
    have ha := hs a List.mem_cons_self
    have ih := nodup_le (l := r) (m := m.erase a) h1.2 fun x hx => (List.mem_erase_of_ne (fun e : x = a => h1.1 (by rw [← e]; exact hx))).mpr (hs x (List.mem_cons_of_mem _ hx))
    have hp : 0 < m.length := List.length_pos_of_mem ha
    rw [List.length_erase_of_mem ha] at ih
    rw [List.length_cons]
    omega
def lettersS : Str := Str.ofString "abcdefghijklmnopqrstuvwxyz"
theorem letters_at {i : Int} (h0 : 0 ≤ i) (h : i < 26) : atI lettersS.cps.toList i = some (97 + i.toNat) := by
  obtain ⟨n, rfl⟩ : ∃ n : Nat, i = (n : Int) := ⟨i.toNat, by omega⟩
  have hn : n < 26 := by omega
  have e : lettersS.cps.toList = (List.range 26).map fun k => 97 + k := by decide +kernel
  rw [e]
  refine atI_nat ?_
  rw [List.getElem?_map, List.getElem?_range hn]
  rfl
theorem ev_letter {ta tb : TE} {σ : L2.St} {H : Hp} {i : Int} (ha : Ev ta σ H (.str lettersS)) (hb : Ev tb σ H (.int i)) (h0 : 0 ≤ i) (h : i < 26) : Ev (tOp rIxS ta tb) σ H (.str ⟨#[97 + i.toNat]⟩) := ev_op ha hb (rv_ixS (by decide +kernel) (letters_at h0 h))
/-- the word with another letter at a place -/
def varW (w : List Nat) (p : Nat) (raw : Int) (j : Nat) : List Nat := w.set p (97 + ((raw + (j : Int)) % 26).toNat)
theorem var_ne {w : List Nat} {p : Nat} {raw : Int} (hp : p < w.length) {i j : Nat} (hi : i < 26) (hj : j < 26) (h : varW w p raw i = varW w p raw j) : i = j := by
  have e := congrArg (fun l : List Nat => l[p]?) h
  simp only [varW] at e
  rw [List.getElem?_set_self hp, List.getElem?_set_self hp] at e
  have e2 := Option.some.inj e
  have a1 := Int.emod_nonneg (raw + (i : Int)) (show (26 : Int) ≠ 0 by decide)
  have a2 := Int.emod_nonneg (raw + (j : Int)) (show (26 : Int) ≠ 0 by decide)
  omega
theorem var_all {w : List Nat} {p : Nat} {raw : Int} {ws : List Str} (hp : p < w.length) (hw : ws.length ≤ 20) (h : ∀ j, j < 25 → (⟨(varW w p raw j).toArray⟩ : Str) ∈ ws) : False := by
  have nd : ((List.range 25).map fun j => (⟨(varW w p raw j).toArray⟩ : Str)).Nodup := by
    refine List.nodup_iff_pairwise_ne.mpr ?_
    rw [List.pairwise_map]
    refine List.Pairwise.imp_of_mem ?_ (List.nodup_iff_pairwise_ne.mp List.nodup_range)
    intro i j hi hj hne e
    have e2 := congrArg tl e
    rw [tl_mk, tl_mk] at e2
    exact hne (var_ne hp (by have := List.mem_range.mp hi; omega) (by have := List.mem_range.mp hj; omega) e2)
  have := nodup_le nd (m := ws) fun x hx => by
    obtain ⟨j, hj, rfl⟩ := List.mem_map.mp hx
    exact h j (List.mem_range.mp hj)
  rw [List.length_map, List.length_range] at this
  omega
def NameOk (z : Str) : Prop := 1 ≤ (tl z).length ∧ (tl z).length ≤ 12 ∧ ∀ c ∈ tl z, c < 200
theorem NameOk.ok {z : Str} (h : NameOk z) : PyData.strOk z = true := by
  unfold PyData.strOk
  rw [Array.all_eq_true']
  intro c hc
  exact decide_eq_true (Nat.lt_trans (h.2.2 c (Array.mem_toList_iff.mpr hc)) (by decide))
section
variable {P : Program} {w : World} {K : PySem.W.Frag} {mg : Str → Option Value} {base : Heap}
def spNames (K : PySem.W.Frag) : Sp := fun vs H Q _ => ∃ (a : Addr) (rows : List Int) (n : Nat), vs = [.ref a, .int (n : Int)] ∧ SqL K H a (rows.map V.int) ∧ n ≤ rows.length ∧ n ≤ 20 ∧ (∀ x ∈ rows, -(10 ^ 18) < x ∧ x < 10 ^ 18) ∧
  ∀ (ws : List Str) H' p, H p = none → Ex H H' → H' p = some (.lst (ws.map V.str)) → ws.length = n → ws.Nodup → (∀ z ∈ ws, NameOk z) → Q (.ref p) H'
def WordI (w0 : List Nat) (pl : Nat) (raw : Int) (ws : List Str) (i : Nat) (z : Str) : Prop := (tl z).length = w0.length ∧ (∀ c ∈ tl z, c < 200) ∧ (z ∉ ws ∨ ((∀ j, j + 1 < i → (⟨(varW w0 pl raw j).toArray⟩ : Str) ∈ ws) ∧ (∀ j, i = j + 1 → tl z = varW w0 pl raw j) ∧ (i = 0 → tl z = w0)))
theorem word_step {w0 : List Nat} {pl : Nat} {raw : Int} {ws : List Str} {i : Nat} {z z' : Str} (h : WordI w0 pl raw ws i z) (hz : z ∈ ws) (hz' : tl z' = varW (tl z) pl raw i) : WordI w0 pl raw ws (i + 1) z' := by
  obtain ⟨hl, hc, h⟩ := h
  refine ⟨by rw [hz']; unfold varW; rw [List.length_set, hl], fun c hc' => ?_, .inr ?_⟩
  · rw [hz'] at hc'
    unfold varW at hc'
    rcases List.mem_or_eq_of_mem_set hc' with h' | h'
    · exact hc c h'
    · have := Int.emod_lt_of_pos (raw + (i : Int)) (show (0 : Int) < 26 by decide)
      omega
  rcases h with h | ⟨h1, h2, h3⟩
  · exact absurd hz h
  have hv : varW (tl z) pl raw i = varW w0 pl raw i := by
    cases i with
    | zero => rw [h3 rfl]
    | succ j =>
      rw [h2 j rfl]
      unfold varW
      rw [List.set_set]
  refine ⟨fun j hj => ?_, fun j hj => ?_, fun hj => by omega⟩
  · by_cases e : j + 1 < i
    · exact h1 j e
    · have ei : i = j + 1 := by omega
      have := h2 j ei
      rw [← this]
      exact hz
  · obtain rfl : i = j := by omega
    rw [hz', hv]
theorem word_stay {w0 : List Nat} {pl : Nat} {raw : Int} {ws : List Str} {i : Nat} {z : Str} (h : WordI w0 pl raw ws i z) (hz : z ∉ ws) : WordI w0 pl raw ws (i + 1) z := ⟨h.1, h.2.1, .inl hz⟩
theorem ok__law_names {f : Addr} {fd : FuncData} {k : Nat} (F : Fun K "_law_names" "_law_names" s__law_names f fd) (T : Top K mg) : FnOk P w K mg base CX0 (k + 1) f fd ["_law_some", "_law_many"] (spNames K) := by
  have nd := sc__law_names.nd
  refine F.ok sc__law_names (fun vs H Q E h => ?_) (fun cdv A outer s H vs Q E hr h => ?_)
  · obtain ⟨a, rows, n, rfl, _⟩ := h
    rfl
  · obtain ⟨a, rows, n, rfl, hS, hlen, n2, hbd, q⟩ := h
    refine ⟨_, (pss_cons (ps_set (i := 2) nd rfl (.inr rfl) pe_str)
      (pss_cons (ps_set (i := 3) nd rfl (.inl rfl) (pe_lst pa_nil))
      (pss_cons (ps_for PassesOwn.never rfl (pi_range1 rfl T.m_range (pa_cons (pv 1) pa_nil)) (pg_name (i := 4) nd rfl (.inl rfl))
        (pss_cons (ps_set (i := 5) nd rfl (.inr rfl) (pe_ix ix_list (pv 0) (pv 4) (fun _ _ => rfl)))
          (pss_cons (ps_set (i := 6) nd rfl (.inl rfl) (pe_op op_add pe_int (pe_op op_mod (pv 5) pe_int)))
          (pss_cons (ps_set (i := 7) nd rfl (.inr rfl) (pe_op op_mod (pe_op op_fdiv (pv 5) pe_int) pe_int))
          (pss_cons (ps_set (i := 8) nd rfl (.inl rfl) (pe_join pe_str (pe_lc (own := [("_law_k", 12)]) (g := gName 12) (tt := tYes) rfl nd (pi_range1 rfl T.m_range (pa_cons (pv 6) pa_nil)) (blkOk_by (own := [("_law_k", 12)]) (N := Su.N__law_names) (sc := defScope s__law_names) (by decide +kernel)) (fun _ _ _ _ _ => (pg_name (i := 12) nd rfl (.inl rfl))) (fun _ _ _ _ _ => pts_nil) (fun _ _ _ _ _ => (pe_ix ix_str (pv 2) (pe_op op_mod (pe_op op_add (pe_op op_fdiv (pv 5) pe_int) (pe_op op_mul (pv 12) (pv 7))) pe_int) (fun _ _ => rfl))))))
          (pss_cons (ps_set (i := 9) nd rfl (.inl rfl) (pe_op op_mod (pe_op op_fdiv (pv 5) pe_int) (pv 6)))
          (pss_cons (ps_for PassesOwn.never rfl (pi_range1 rfl T.m_range (pa_cons pe_int pa_nil)) (pg_name (i := 10) nd rfl (.inl rfl))
            (pss_one (ps_if (pt_cmpR op_in_seq (pv 8) (pv 3) rfl)
                (pss_cons (ps_set (i := 11) nd rfl (.inl rfl) (pe_ix ix_str (pv 2) (pe_op op_mod (pe_op op_add (pv 5) (pv 10)) pe_int) (fun _ _ => rfl)))
                  (pss_one (ps_set (i := 8) nd rfl (.inl rfl) (pe_op op_add_str (pe_op op_add_str (pe_slice sl_str (pv 8) po_none (po_some (pv 9))) (pv 11)) (pe_slice sl_str (pv 8) (po_some (pe_op op_add (pv 9) pe_int)) po_none)))))
                pss_nil)))
          (pss_one (ps_expr (pe_bm PySem.F.plainAttrs_list PySem.F.slot_list_append PySem.F.type_list_append mt_append (pv 3) (pa_cons (pv 8) pa_nil)))))))))))
      (pss_one (ps_ret (pv 3)))))), ?_⟩
    refine q_asg (v := .str lettersS) ev_c fun H1 e1 => ?_
    refine q_asgL (el_lst ea_nil (by decide)) fun p H2 hp e2 h2 => ?_
    refine q_forR1 (by walk_at "ea") (by omega) (fun i σ' H' => ∃ (ws : List Str) (y4 y5 y6 y7 y8 y9 y10 y11 y12 : Option V), σ' = [some (.ref a), some (.int (n : Int)), some (.str lettersS), some (.ref p), y4, y5, y6, y7, y8, y9, y10, y11, y12] ∧ Ex H H' ∧ H' p = some (.lst (ws.map V.str)) ∧
      ws.length = i ∧ ws.Nodup ∧ ∀ z ∈ ws, NameOk z) ?_ ?_ ?_
    · intro H3 e3
      exact ⟨[], none, none, none, none, none, none, none, none, none, rfl, (e1.trans e2).trans e3, e3 p _ h2, rfl, List.nodup_nil, fun z hz => absurd hz List.not_mem_nil⟩
    · rintro i σ' H' hi ⟨ws, y4, y5, y6, y7, y8, y9, y10, y11, y12, rfl, ex, hp', hl, hnd, hok⟩
      have hs := ex_l ex hS
      refine q_asg (by walk_at "ev") fun H3 e3 => ?_
      have hs := ex_l e3 hs
      obtain ⟨raw, hraw, r1, r2⟩ : ∃ raw, rows.getD (i : Int).toNat 0 = raw ∧ -(10 ^ 18) < raw ∧ raw < 10 ^ 18 := ⟨_, rfl, (by
        rw [List.getD_eq_getElem?_getD, List.getElem?_eq_getElem (show (i : Int).toNat < rows.length by omega)]
        exact (hbd _ (List.getElem_mem _)).1), (by
        rw [List.getD_eq_getElem?_getD, List.getElem?_eq_getElem (show (i : Int).toNat < rows.length by omega)]
        exact (hbd _ (List.getElem_mem _)).2)⟩
      rw [hraw]
      clear hraw
      refine q_asg (by walk_at "ev") fun H4 e4 => ?_
      obtain ⟨size, hsz⟩ : ∃ size : Nat, 1 + raw % 12 = (size : Int) := ⟨(1 + raw % 12).toNat, by omega⟩
      have hs1 : 1 ≤ size ∧ size ≤ 12 := by omega
      rw [hsz]
      clear hsz
      refine q_asg (by walk_at "ev") fun H5 e5 => ?_
      -- word
      refine q_asg (ev_join (a := Str.ofString "") (ys := (List.range size).map fun k : Nat => (⟨#[97 + ((raw / 13 + (k : Int) * (raw / 5 % 4)) % 26).toNat]⟩ : Str)) ev_c ?_ ?_) fun H6 e6 => ?_
      · have hg : ((List.range size).map fun k : Nat => (⟨#[97 + ((raw / 13 + (k : Int) * (raw / 5 % 4)) % 26).toNat]⟩ : Str)).map V.str = given ((size : Int)).toNat (fun _ => true) fun k => .str ⟨#[97 + ((raw / 13 + (k : Int) * (raw / 5 % 4)) % 26).toNat]⟩ := by
          unfold given
          rw [List.filter_eq_self.mpr (fun _ _ => rfl), List.map_map, Int.toNat_natCast]
          rfl
        rw [hg]
        refine el_lcR1 (n := (size : Int)) _ _ (by walk_at "ea") (by omega) (fun _ => rfl) (fun _ _ _ _ => et_yes) fun k H6 e6 hk _ => ?_
        have g1 := Int.emod_nonneg (raw / 13 + (k : Int) * (raw / 5 % 4)) (show (26 : Int) ≠ 0 by decide)
        have g2 := Int.emod_lt_of_pos (raw / 13 + (k : Int) * (raw / 5 % 4)) (show (0 : Int) < 26 by decide)
        refine ev_letter (i := (raw / 13 + (k : Int) * (raw / 5 % 4)) % 26) (ev_var rfl) (by walk_at "ev") g1 g2
      · have hsum : ((((List.range size).map fun k : Nat => (⟨#[97 + ((raw / 13 + (k : Int) * (raw / 5 % 4)) % 26).toNat]⟩ : Str)).map (·.length)).sum) = size := by
          rw [List.map_map]
          have : ((fun z : Str => z.length) ∘ fun k : Nat => (⟨#[97 + ((raw / 13 + (k : Int) * (raw / 5 % 4)) % 26).toNat]⟩ : Str)) = fun _ => 1 := rfl
          rw [this, List.map_const', List.length_range, List.sum_replicate_nat, Nat.mul_one]
        rw [hsum, List.length_map, List.length_range]
        have : (Str.ofString "").length = 0 := by decide +kernel
        rw [this]
        omega
      have hwe : tl (Txt.join (Str.ofString "") ((List.range size).map fun k : Nat => (⟨#[97 + ((raw / 13 + (k : Int) * (raw / 5 % 4)) % 26).toNat]⟩ : Str))) = (List.range size).map fun k : Nat => 97 + ((raw / 13 + (k : Int) * (raw / 5 % 4)) % 26).toNat := by
        rw [join_eq]
        have h0 := tl_join (Str.ofString "") ((List.range size).map fun k : Nat => (⟨#[97 + ((raw / 13 + (k : Int) * (raw / 5 % 4)) % 26).toNat]⟩ : Str))
        have h1 : tl (Str.ofString "") = [] := by decide +kernel
        rw [h1, List.map_map] at h0
        have h2 : (tl ∘ fun k : Nat => (⟨#[97 + ((raw / 13 + (k : Int) * (raw / 5 % 4)) % 26).toNat]⟩ : Str)) = fun k : Nat => [97 + ((raw / 13 + (k : Int) * (raw / 5 % 4)) % 26).toNat] := rfl
        rw [h2, join_ones] at h0
        exact h0
      have hwl : (tl (Txt.join (Str.ofString "") ((List.range size).map fun k : Nat => (⟨#[97 + ((raw / 13 + (k : Int) * (raw / 5 % 4)) % 26).toNat]⟩ : Str)))).length = size := by rw [hwe, List.length_map, List.length_range]
      have hwc : ∀ c ∈ tl (Txt.join (Str.ofString "") ((List.range size).map fun k : Nat => (⟨#[97 + ((raw / 13 + (k : Int) * (raw / 5 % 4)) % 26).toNat]⟩ : Str))), c < 200 := fun c hc => by
        rw [hwe] at hc
        obtain ⟨k, _, rfl⟩ := List.mem_map.mp hc
        have := Int.emod_lt_of_pos (raw / 13 + (k : Int) * (raw / 5 % 4)) (show (0 : Int) < 26 by decide)
        omega
      clear hwe
      generalize Txt.join (Str.ofString "") ((List.range size).map fun k : Nat => (⟨#[97 + ((raw / 13 + (k : Int) * (raw / 5 % 4)) % 26).toNat]⟩ : Str)) = z0 at hwl hwc ⊢
      refine q_asg (by walk_at "ev") fun H7 e7 => ?_
      have p1 := Int.emod_nonneg (raw / 7) (show (size : Int) ≠ 0 by omega)
      have p2 := Int.emod_lt_of_pos (raw / 7) (show 0 < (size : Int) by omega)
      obtain ⟨pl, hpl⟩ : ∃ pl : Nat, raw / 7 % (size : Int) = (pl : Int) := ⟨(raw / 7 % (size : Int)).toNat, by omega⟩
      have hpl2 : pl < size := by omega
      rw [hpl]
      clear hpl
      have ex7 := (((((ex.trans e3).trans e4).trans e5).trans e6).trans e7)
      have hp7 := ex_g ((((e3.trans e4).trans e5).trans e6).trans e7) hp'
      refine q_forR1 (n := 26) (by walk_at "ea") (by omega) (fun j σ' H' => ∃ (z : Str) (y10 y11 : Option V), σ' = [some (.ref a), some (.int (n : Int)), some (.str lettersS), some (.ref p), some (.int (i : Int)), some (.int raw), some (.int (size : Int)), some (.int (raw / 5 % 4)), some (.str z), some (.int (pl : Int)), y10, y11, y12] ∧ Ex H7 H' ∧ WordI (tl z0) pl raw ws j z) ?_ ?_ ?_
      · intro H8 e8
        exact ⟨z0, y10, y11, rfl, e8, rfl, hwc, .inr ⟨fun j hj => by omega, fun j hj => by omega, fun _ => rfl⟩⟩
      · rintro j σ' H8 hj ⟨z, y10, y11, rfl, e8, hW⟩
        have hzl : z.length = size := by rw [len_tl, hW.1, hwl]
        have hp8 := ex_g e8 hp7
        refine s_when (et_test (ev_op (ev_var rfl) (ev_var rfl) (rv_isL (sq_of hp8) rfl flat_strs))) (fun hb H9 e9 => ?_) (fun hb H9 e9 => ?_)
        · rw [inV_str] at hb
          have hin := of_decide_eq_true hb
          have g1 := Int.emod_nonneg (raw + (j : Int)) (show (26 : Int) ≠ 0 by decide)
          have g2 := Int.emod_lt_of_pos (raw + (j : Int)) (show (0 : Int) < 26 by decide)
          refine q_asg (ev_letter (i := (raw + (j : Int)) % 26) (ev_var rfl) (by walk_at "ev") g1 g2) fun H10 e10 => ?_
          refine s_asg (ev_addS (ev_addS (ev_slS (lo := none) (hi := some (pl : Int)) (ev_var rfl) eo_none (eo_some (by walk_at "ev")) (by omega)) (ev_var rfl) ?_) (ev_slS (lo := some ((pl : Int) + 1)) (hi := none) (ev_var rfl) (eo_some (by walk_at "ev")) eo_none (by omega)) ?_) fun H11 e11 => ?_
          · have := cutS_length z none (some (pl : Int))
            show _ + 1 ≤ 100000
            omega
          · have h1 := cutS_length z none (some (pl : Int))
            have h2 := cutS_length z (some ((pl : Int) + 1)) none
            have h3 : (cutS z none (some (pl : Int)) ++ (⟨#[97 + ((raw + (j : Int)) % 26).toNat]⟩ : Str)).length = (cutS z none (some (pl : Int))).length + 1 := by
              rw [len_tl, tl_append, List.length_append, ← len_tl]
              rfl
            rw [h3]
            omega
          refine ⟨_, _, _, rfl, (e8.trans e9).trans (e10.trans e11), word_step hW hin ?_⟩
          rw [tl_append, tl_append, tl_cutTo, show ((pl : Int) + 1) = ((pl + 1 : Nat) : Int) by omega, tl_cutFrom]
          unfold varW
          rw [List.set_eq_take_append_cons_drop, if_pos (by rw [← len_tl]; omega), List.append_assoc]
          rfl
        · rw [inV_str] at hb
          exact ⟨_, _, _, rfl, e8.trans e9, word_stay hW (of_decide_eq_false hb)⟩
      · rintro σ' H8 ⟨z, y10, y11, rfl, e8, hW⟩
        dsimp only
        refine s_app (ex_g e8 hp7) (by walk_at "ev") (by walk_at "ev") (by rw [List.length_map]; omega) fun H9 e9 => ?_
        have hzn : z ∉ ws := by
          rcases hW.2.2 with h | ⟨h1, _, _⟩
          · exact h
          · exact (var_all (w := tl z0) (p := pl) (raw := raw) (ws := ws) (by omega) (by omega) fun j hj => h1 j (by omega)).elim
        refine ⟨ws ++ [z], _, _, _, _, _, _, _, _, _, rfl, ex_up ((ex7.trans e8).trans e9) (fresh_back e1 hp), by rw [upd_same, List.map_append]; rfl, by rw [List.length_append, hl]; rfl, ?_, ?_⟩
        · refine List.nodup_append.mpr ⟨hnd, List.nodup_cons.mpr ⟨List.not_mem_nil, List.nodup_nil⟩, ?_⟩
          intro x hx y hy e
          obtain rfl := List.mem_singleton.mp hy
          exact hzn (e ▸ hx)
        · intro x hx
          rcases List.mem_append.mp hx with h | h
          · exact hok x h
          · obtain rfl := List.mem_singleton.mp h
            unfold NameOk
            rw [hW.1, hwl]
            exact ⟨hs1.1, hs1.2, hW.2.1⟩
    · rintro σ' H' ⟨ws, y4, y5, y6, y7, y8, y9, y10, y11, y12, rfl, ex, hp', hl, hnd, hok⟩
      refine s_ret (by walk_at "ev") fun H3 e3 => ?_
      exact q ws H3 p (fresh_back e1 hp) (ex.trans e3) (ex_g e3 hp') (by omega) hnd hok
end

end Su
namespace Su
/-! ### settling: what a row of nets comes to, step by step -/
def stepT (l : List Int) (i j : Nat) (c : Int) (l' : List Int) : Prop := ∃ x y, l[i]? = some x ∧ l[j]? = some y ∧ x < 0 ∧ 0 < y ∧ (∀ (k : Nat) (z : Int), k < i → l[k]? = some z → 0 ≤ z) ∧ (∀ (k : Nat) (z : Int), k < j → l[k]? = some z → z ≤ 0) ∧ c = (if y < -x then y else -x) ∧ l' = (l.set i (x + c)).set j (y - c)
def doneT (l : List Int) : Prop := (∀ (i : Nat) (z : Int), l[i]? = some z → 0 ≤ z) ∨ (∀ (i : Nat) (z : Int), l[i]? = some z → z ≤ 0)
inductive Tr : List Int → List (Nat × Nat × Int) → Prop
  | done {l} : doneT l → Tr l []
  | step {l i j c l' r} : stepT l i j c l' → Tr l' r → Tr l ((i, j, c) :: r)
theorem step_not_done {l l' : List Int} {i j : Nat} {c : Int} (h : stepT l i j c l') : ¬ doneT l := by
  obtain ⟨x, y, hx, hy, nx, py, _⟩ := h
  rintro (d | d)
  · have := d i x hx
    omega
  · have := d j y hy
    omega
theorem step_det {l l1 l2 : List Int} {i j i' j' : Nat} {c c' : Int} (h : stepT l i j c l1) (h' : stepT l i' j' c' l2) : i = i' ∧ j = j' ∧ c = c' ∧ l1 = l2 := by
  obtain ⟨x, y, hx, hy, nx, py, f1, f2, rfl, rfl⟩ := h
  obtain ⟨x', y', hx', hy', nx', py', f1', f2', rfl, rfl⟩ := h'
  have ei : i = i' := by
    rcases Nat.lt_trichotomy i i' with h | h | h
    · have := f1' i x h hx
      omega
    · exact h
    · have := f1 i' x' h hx'
      omega
  have ej : j = j' := by
    rcases Nat.lt_trichotomy j j' with h | h | h
    · have := f2' j y h hy
      omega
    · exact h
    · have := f2 j' y' h hy'
      omega
  subst ei
  subst ej
  obtain rfl : x = x' := Option.some.inj (hx.symm.trans hx')
  obtain rfl : y = y' := Option.some.inj (hy.symm.trans hy')
  exact ⟨rfl, rfl, rfl, rfl⟩
theorem Tr.det {l : List Int} {r : List (Nat × Nat × Int)} (h : Tr l r) : ∀ {r'}, Tr l r' → r = r' := by
  induction h with
  | done d =>
    intro r' h'
    cases h' with
    | done _ => rfl
    | step s _ => exact absurd d (step_not_done s)
  | step s _ ih =>
    intro r' h'
    cases h' with
    | done d => exact absurd d (step_not_done s)
    | step s' t' =>
      obtain ⟨rfl, rfl, rfl, rfl⟩ := step_det s s'
      rw [ih t']
theorem set_get {l : List Int} {i : Nat} {x : Int} (h : l[i]? = some x) (y : Int) : (l.set i y)[i]? = some y := List.getElem?_set_self (List.getElem?_eq_some_iff.mp h).1
theorem set_get_ne {l : List Int} {i k : Nat} (y : Int) (h : i ≠ k) : (l.set i y)[k]? = l[k]? := List.getElem?_set_ne h
theorem set_sum {l : List Int} {i : Nat} {x : Int} (h : l[i]? = some x) (y : Int) : (l.set i y).sum = l.sum - x + y := sum_set h
/-- a row that comes to nought and has something below has something above -/
theorem pos_of_sum : ∀ {l : List Int}, (∀ (i : Nat) (z : Int), l[i]? = some z → z ≤ 0) → l.sum ≤ 0
  | [], _ => by rw [List.sum_nil]; omega
  | a :: r, h => by
    have h1 := h 0 a rfl
    have h2 := pos_of_sum (l := r) fun i z hz => h (i + 1) z hz
    rw [List.sum_cons]
    omega
theorem some_pos {l : List Int} {i : Nat} {x : Int} (h : l[i]? = some x) (hx : x < 0) (hs : l.sum = 0) : ∃ (j : Nat) (y : Int), l[j]? = some y ∧ 0 < y := by
  by_cases hp : ∃ (j : Nat) (y : Int), l[j]? = some y ∧ 0 < y
  · exact hp
  · have h2 : ∀ (k : Nat) (z : Int), (l.set i 0)[k]? = some z → z ≤ 0 := by
      intro k z hz
      by_cases e : i = k
      · subst e
        rw [set_get h] at hz
        have := Option.some.inj hz
        omega
      · rw [set_get_ne 0 e] at hz
        by_cases hz0 : 0 < z
        · exact absurd ⟨k, z, hz, hz0⟩ hp
        · omega
    have h3 := pos_of_sum h2
    rw [set_sum h] at h3
    omega

end Su
namespace Su
/-! ### transfers -/
abbrev Net := Addr × Str × Int
def nrefs (qs : List Net) : List V := qs.map fun q => V.ref q.1
def TN (H : Hp) (qs : List Net) : Prop := ∀ q ∈ qs, H q.1 = some (.tup [.str q.2.1, .int q.2.2])
theorem TN.ex {H H' : Hp} {qs : List Net} (h : TN H qs) (e : Ex H H') : TN H' qs := fun q hq => e _ _ (h q hq)
theorem TN.nil {H : Hp} : TN H [] := fun q hq => absurd hq List.not_mem_nil
theorem TN.upd {H : Hp} {qs : List Net} {p : Addr} {xs ys : List V} (h : TN H qs) (hp : H p = some (.lst xs)) : TN (upd H p (.lst ys)) qs := fun q hq => by
  rw [upd_ne (ne_of (h q hq) hp (fun z => nomatch z))]
  exact h q hq
theorem TN.add {H : Hp} {qs : List Net} {q : Net} (h : TN H qs) (hq : H q.1 = some (.tup [.str q.2.1, .int q.2.2])) : TN H (qs ++ [q]) := fun r hr => by
  rcases List.mem_append.mp hr with h' | h'
  · exact h r h'
  · obtain rfl := List.mem_singleton.mp h'
    exact hq
theorem nrefs_at {qs : List Net} {i : Nat} {x : V} (h : (nrefs qs)[i]? = some x) : ∃ q, qs[i]? = some q ∧ x = .ref q.1 := by
  unfold nrefs at h
  rw [List.getElem?_map] at h
  cases hc : qs[i]? with
  | none => rw [hc] at h; cases h
  | some c => rw [hc] at h; exact ⟨c, rfl, (Option.some.inj h).symm⟩
theorem nrefs_len {qs : List Net} : (nrefs qs).length = qs.length := List.length_map _
/-- a told transfer: (from, to, coins) -/
abbrev Trn := Addr × Str × Str × Int
def trefs (ts : List Trn) : List V := ts.map fun t => V.ref t.1
def TT3 (H : Hp) (ts : List Trn) : Prop := ∀ t ∈ ts, H t.1 = some (.tup [.str t.2.1, .str t.2.2.1, .int t.2.2.2])
theorem TT3.ex {H H' : Hp} {ts : List Trn} (h : TT3 H ts) (e : Ex H H') : TT3 H' ts := fun q hq => e _ _ (h q hq)
theorem TT3.nil {H : Hp} : TT3 H [] := fun q hq => absurd hq List.not_mem_nil
theorem TT3.upd {H : Hp} {ts : List Trn} {p : Addr} {xs ys : List V} (h : TT3 H ts) (hp : H p = some (.lst xs)) : TT3 (upd H p (.lst ys)) ts := fun q hq => by
  rw [upd_ne (ne_of (h q hq) hp (fun z => nomatch z))]
  exact h q hq
theorem TT3.add {H : Hp} {ts : List Trn} {t : Trn} (h : TT3 H ts) (ht : H t.1 = some (.tup [.str t.2.1, .str t.2.2.1, .int t.2.2.2])) : TT3 H (ts ++ [t]) := fun r hr => by
  rcases List.mem_append.mp hr with h' | h'
  · exact h r h'
  · obtain rfl := List.mem_singleton.mp h'
    exact ht
/-- the transfers as the steps say, with names -/
def named (ns : List Str) (r : List (Nat × Nat × Int)) : List (Str × Str × Int) := r.map fun t => (ns.getD t.1 Str.empty, ns.getD t.2.1 Str.empty, t.2.2)
def netsOf (qs : List Net) : List Int := qs.map (·.2.2)
def nmsOf (qs : List Net) : List Str := qs.map (·.2.1)

end Su
namespace Su
theorem int_at {ns : List Int} {i : Nat} {x : V} (h : (ns.map V.int)[i]? = some x) : ∃ c, x = .int c ∧ ns[i]? = some c := by
  rw [List.getElem?_map] at h
  cases hc : ns[i]? with
  | none => rw [hc] at h; cases h
  | some c => rw [hc] at h; exact ⟨c, (Option.some.inj h).symm, rfl⟩
theorem given_ints' (l : List Int) : given l.length (fun _ => true) (fun i => .int (l.getD i 0)) = l.map V.int := by
  apply List.ext_getElem?
  intro i
  unfold given
  rw [List.filter_eq_self.mpr (fun _ _ => rfl), List.getElem?_map, List.getElem?_map]
  by_cases hi : i < l.length
  · rw [List.getElem?_range hi, List.getElem?_eq_getElem hi]
    show some (V.int (l.getD i 0)) = some (V.int l[i])
    rw [List.getD_eq_getElem?_getD, List.getElem?_eq_getElem hi]
    rfl
  · rw [List.getElem?_eq_none (by rw [List.length_range]; omega), List.getElem?_eq_none (by omega)]
    rfl

end Su
namespace Su
theorem lay_of_shaped {d : PyData} (h : SeqAt.shaped d = true) : d.canLay0 = true := (Bool.and_eq_true_iff.mp h).1
/-- two lists of windows that are alike -/
theorem rv_neD {K : PySem.W.Frag} {H : Hp} {x y : V} {d : PyData} (h1 : Dp K H x d) (h2 : Dp K H y d) (hs : SeqAt.shaped d = true) : RV (rNeD K) x y H (.bl false) := fun H1 e Q q =>
  ⟨d, d, dp_ex e h1, dp_ex e h2, hs, hs, by rw [SeqAt.eqv_refl d (lay_of_shaped hs)]; exact q H1 (Ex.refl H1)⟩
theorem rv_eqD {K : PySem.W.Frag} {H : Hp} {x y : V} {d : PyData} (h1 : Dp K H x d) (h2 : Dp K H y d) (hs : SeqAt.shaped d = true) : RV (rEqD K) x y H (.bl true) := fun H1 e Q q =>
  ⟨d, d, dp_ex e h1, dp_ex e h2, hs, hs, by rw [SeqAt.eqv_refl d (lay_of_shaped hs)]; exact q H1 (Ex.refl H1)⟩
def intD (ns : List Int) : PyData := .list (ns.map .int)
theorem dp_ints {K : PySem.W.Frag} {H : Hp} {l : Addr} {ns : List Int} (hl : SqL K H l (ns.map V.int)) : Dp K H (.ref l) (intD ns) := .lst hl (dpa_of V.int PyData.int ns fun i _ => .int i)
theorem pl_ints {ns : List Int} (h : ns.length ≤ 1000) : PlD 1 (intD ns) := .list (by rw [List.length_map]; exact h) fun x hx => by
  obtain ⟨i, _, rfl⟩ := List.mem_map.mp hx
  exact .int i
theorem shaped_ints (ns : List Int) : SeqAt.shaped (intD ns) = true := by
  have h1 : ∀ l : List Int, PyData.canLayAll0 (l.map .int) = true := by
    intro l
    induction l with
    | nil => simp [PyData.canLayAll0]
    | cons a r ih => simp [PyData.canLayAll0, PyData.canLay0, ih]
  have h2 : ∀ l : List Int, PyData.depthAll (l.map .int) = 0 := by
    intro l
    induction l with
    | nil => simp [PyData.depthAll]
    | cons a r ih => simp [PyData.depthAll, PyData.depth, ih]
  unfold SeqAt.shaped intD
  rw [Bool.and_eq_true]
  refine ⟨?_, ?_⟩
  · simp only [PyData.canLay0]
    exact h1 ns
  · simp only [PyData.depth]
    have := h2 ns
    exact decide_eq_true (by omega)

end Su
namespace Su
/-! ### lists of nets, of transfers, as data -/
def netD (qs : List Net) : PyData := .list (qs.map fun q => .tuple [.str q.2.1, .int q.2.2])
theorem dp_net {K : PySem.W.Frag} {H : Hp} {l : Addr} {qs : List Net} (hl : SqL K H l (nrefs qs)) (ht : TN H qs) : Dp K H (.ref l) (netD qs) :=
  .lst hl (dpa_of (fun q : Net => V.ref q.1) (fun q => .tuple [.str q.2.1, .int q.2.2]) qs fun q hq => .tup (st_of (ht q hq)) (.cons (.str _) (.cons (.int _) .nil)))
theorem shaped_net (qs : List Net) (h : ∀ q ∈ qs, PyData.strOk q.2.1 = true) : SeqAt.shaped (netD qs) = true := by
  have h1 : ∀ l : List Net, (∀ q ∈ l, PyData.strOk q.2.1 = true) → PyData.canLayAll0 (l.map fun q => .tuple [.str q.2.1, .int q.2.2]) = true := by
    intro l
    induction l with
    | nil => intro _; simp [PyData.canLayAll0]
    | cons a r ih =>
      intro hl
      have ha := hl a List.mem_cons_self
      have hr := ih fun q hq => hl q (List.mem_cons_of_mem _ hq)
      simp [PyData.canLayAll0, PyData.canLay0, hr, ha]
  have h2 : ∀ l : List Net, PyData.depthAll (l.map fun q => .tuple [.str q.2.1, .int q.2.2]) ≤ 1 := by
    intro l
    induction l with
    | nil => simp [PyData.depthAll]
    | cons a r ih =>
      simp only [List.map_cons, PyData.depthAll, PyData.depth]
      omega
  unfold SeqAt.shaped netD
  rw [Bool.and_eq_true]
  refine ⟨?_, ?_⟩
  · simp only [PyData.canLay0]
    exact h1 qs h
  · simp only [PyData.depth]
    have := h2 qs
    exact decide_eq_true (by omega)
def trnD (l : List (Str × Str × Int)) : PyData := .list (l.map fun t => .tuple [.str t.1, .str t.2.1, .int t.2.2])
theorem dp_trn {K : PySem.W.Frag} {H : Hp} {l : Addr} {ts : List Trn} {tv : List (Str × Str × Int)} (hl : SqL K H l (trefs ts)) (ht : TT3 H ts) (hv : ts.map (·.2) = tv) : Dp K H (.ref l) (trnD tv) := by
  subst hv
  unfold trnD
  rw [List.map_map]
  exact .lst hl (dpa_of (fun t : Trn => V.ref t.1) (fun t => .tuple [.str t.2.1, .str t.2.2.1, .int t.2.2.2]) ts fun t h => .tup (st_of (ht t h)) (.cons (.str _) (.cons (.str _) (.cons (.int _) .nil))))
theorem pl_trn {l : List (Str × Str × Int)} (h : l.length ≤ 1000) : PlD 2 (trnD l) := .list (by rw [List.length_map]; exact h) fun x hx => by
  obtain ⟨t, _, rfl⟩ := List.mem_map.mp hx
  refine .tuple (by show 3 ≤ 1000; decide) fun y hy => ?_
  rcases List.mem_cons.mp hy with rfl | hy
  · exact .str _
  rcases List.mem_cons.mp hy with rfl | hy
  · exact .str _
  obtain rfl := List.mem_singleton.mp hy
  exact .int _

end Su
namespace Su
/-! ### texts in their order -/
theorem ltc_irr : ∀ l : List Nat, ltCps l l = false
  | [] => rfl
  | a :: r => by
    show (decide (a < a) || (a == a && ltCps r r)) = false
    rw [ltc_irr r]
    simp
theorem ltc_trans : ∀ a b c : List Nat, ltCps a b = true → ltCps b c = true → ltCps a c = true
  | [], [], _, h, _ => by cases h
  | [], _ :: _, [], _, h => by cases h
  | [], _ :: _, _ :: _, _, _ => rfl
  | _ :: _, [], _, h, _ => by cases h
  | _ :: _, _ :: _, [], _, h => by cases h
  | a :: r, b :: s, c :: t, h1, h2 => by
    have k1 : (decide (a < b) || (a == b && ltCps r s)) = true := h1
    have k2 : (decide (b < c) || (b == c && ltCps s t)) = true := h2
    show (decide (a < c) || (a == c && ltCps r t)) = true
    simp only [Bool.or_eq_true, decide_eq_true_eq, Bool.and_eq_true, beq_iff_eq] at k1 k2 ⊢
    rcases k1 with k1 | ⟨e1, k1⟩
    · rcases k2 with k2 | ⟨e2, k2⟩
      · exact .inl (by omega)
      · exact .inl (by omega)
    · rcases k2 with k2 | ⟨e2, k2⟩
      · exact .inl (by omega)
      · exact .inr ⟨by omega, ltc_trans r s t k1 k2⟩
theorem ltc_tri : ∀ a b : List Nat, ltCps a b = true ∨ a = b ∨ ltCps b a = true
  | [], [] => .inr (.inl rfl)
  | [], _ :: _ => .inl rfl
  | _ :: _, [] => .inr (.inr rfl)
  | a :: r, b :: s => by
    show (decide (a < b) || (a == b && ltCps r s)) = true ∨ _ ∨ (decide (b < a) || (b == a && ltCps s r)) = true
    simp only [Bool.or_eq_true, decide_eq_true_eq, Bool.and_eq_true, beq_iff_eq]
    rcases Nat.lt_trichotomy a b with h | h | h
    · exact .inl (.inl h)
    · subst h
      rcases ltc_tri r s with h | h | h
      · exact .inl (.inr ⟨rfl, h⟩)
      · exact .inr (.inl (by rw [h]))
      · exact .inr (.inr (.inr ⟨rfl, h⟩))
    · exact .inr (.inr (.inl h))
def LtS (x y : Str) : Prop := ltCps x.cps.toList y.cps.toList = true
theorem str_ext {x y : Str} (h : x.cps.toList = y.cps.toList) : x = y := TL.ext_tl h
theorem rising_strict : ∀ (p : Str) (l : List Str), risingS p l = true → (p :: l).Nodup → (p :: l).Pairwise LtS
  | p, [], _, _ => List.pairwise_singleton _ _
  | p, x :: r, h, hn => by
    have h : (!ltCps x.cps.toList p.cps.toList && risingS x r) = true := h
    rw [Bool.and_eq_true] at h
    obtain ⟨h1, h2⟩ := List.nodup_cons.mp hn
    have ih := rising_strict x r h.2 h2
    have hpx : LtS p x := by
      rcases ltc_tri p.cps.toList x.cps.toList with h' | h' | h'
      · exact h'
      · exact absurd (List.mem_cons.mpr (.inl (str_ext h'))) h1
      · rw [h'] at h
        exact absurd h.1 (by decide)
    refine List.pairwise_cons.mpr ⟨fun y hy => ?_, ih⟩
    rcases List.mem_cons.mp hy with rfl | hy
    · exact hpx
    · exact ltc_trans _ _ _ hpx ((List.pairwise_cons.mp ih).1 y hy)
theorem sorted_strict {l : List Str} (h : sortedS l = true) (hn : l.Nodup) : l.Pairwise LtS := by
  cases l with
  | nil => exact List.Pairwise.nil
  | cons p r => exact rising_strict p r h hn
theorem strict_unique : ∀ {l m : List Str}, l.Pairwise LtS → m.Pairwise LtS → (∀ x, x ∈ l ↔ x ∈ m) → l = m
  | [], [], _, _, _ => rfl
  | [], b :: s, _, _, h => absurd ((h b).mpr List.mem_cons_self) List.not_mem_nil
  | a :: r, [], _, _, h => absurd ((h a).mp List.mem_cons_self) List.not_mem_nil
  | a :: r, b :: s, hl, hm, h => by
    obtain ⟨l1, l2⟩ := List.pairwise_cons.mp hl
    obtain ⟨m1, m2⟩ := List.pairwise_cons.mp hm
    have irr : ∀ {x y : Str}, LtS x y → LtS y x → False := fun h1 h2 => by
      have h3 := ltc_trans _ _ _ h1 h2
      rw [ltc_irr] at h3
      cases h3
    have e : a = b := by
      rcases List.mem_cons.mp ((h a).mp List.mem_cons_self) with e | ha
      · exact e
      · rcases List.mem_cons.mp ((h b).mpr List.mem_cons_self) with e | hb
        · exact e.symm
        · exact (irr (m1 a ha) (l1 b hb)).elim
    subst e
    rw [strict_unique l2 m2 fun x => ⟨fun hx => ?_, fun hx => ?_⟩]
    · rcases List.mem_cons.mp ((h x).mp (List.mem_cons_of_mem _ hx)) with rfl | h'
      · exact (irr (l1 x hx) (l1 x hx)).elim
      · exact h'
    · rcases List.mem_cons.mp ((h x).mpr (List.mem_cons_of_mem _ hx)) with rfl | h'
      · exact (irr (m1 x hx) (m1 x hx)).elim
      · exact h'

end Su
namespace Su
/-! ### nets of debts -/
abbrev Debt := Str × Str × Int
def moved (ds : List Debt) (nm : Str) : Int := (ds.map fun d => (if d.1 = nm then -d.2.2 else 0) + (if d.2.1 = nm then d.2.2 else 0)).sum
def namedIn (ds : List Debt) (nm : Str) : Bool := ds.any fun d => decide (d.1 = nm) || decide (d.2.1 = nm)
theorem moved_snoc (ds : List Debt) (d : Debt) (nm : Str) : moved (ds ++ [d]) nm = moved ds nm + (if d.1 = nm then -d.2.2 else 0) + (if d.2.1 = nm then d.2.2 else 0) := by
  unfold moved
  rw [List.map_append, List.sum_append]
  show _ + ([_] : List Int).sum = _
  rw [List.sum_singleton]
  dsimp only
  omega
theorem named_snoc (ds : List Debt) (d : Debt) (nm : Str) : namedIn (ds ++ [d]) nm = (namedIn ds nm || (decide (d.1 = nm) || decide (d.2.1 = nm))) := by
  unfold namedIn
  rw [List.any_append]
  simp
theorem moved_not {ds : List Debt} {nm : Str} (h : namedIn ds nm = false) : moved ds nm = 0 := by
  unfold namedIn at h
  rw [List.any_eq_false] at h
  unfold moved
  have : ∀ l : List Debt, (∀ d ∈ l, ¬ ((decide (d.1 = nm) || decide (d.2.1 = nm)) = true)) → (l.map fun d => (if d.1 = nm then -d.2.2 else 0) + (if d.2.1 = nm then d.2.2 else 0)).sum = 0 := by
    intro l
    induction l with
    | nil => intro _; rfl
    | cons a r ih =>
      intro hl
      have ha := hl a List.mem_cons_self
      simp only [Bool.or_eq_true, decide_eq_true_eq, not_or] at ha
      rw [List.map_cons, List.sum_cons, ih fun d hd => hl d (List.mem_cons_of_mem _ hd), if_neg ha.1, if_neg ha.2]
      rfl
  exact this ds h
/-- a dict that holds, for each name that is named, its number -/
structure Holds (kvs : List (Key × V)) (f : Str → Bool) (g : Str → Int) : Prop where
  nd : (kvs.map (·.1)).Nodup
  txt : ∀ kv ∈ kvs, ∃ s : Str, kv.1 = Sum.inr s
  val : ∀ nm : Str, valV kvs (Sum.inr nm) = if f nm = true then some (.int (g nm)) else none
theorem Holds.nil {g : Str → Int} : Holds [] (fun _ => false) g := ⟨List.nodup_nil, fun kv h => absurd h List.not_mem_nil, fun nm => rfl⟩
theorem putK_old_keys {kvs : List (Key × V)} {k : Key} {v : V} (h : (kvs.any fun kv => decide (kv.1 = k)) = true) : (putK kvs k v).map (·.1) = kvs.map (·.1) := by
  unfold putK
  rw [if_pos h, List.map_map]
  apply List.map_congr_left
  intro kv _
  show (if kv.1 = k then (kv.1, v) else kv).1 = kv.1
  split <;> rfl
theorem Holds.put {kvs : List (Key × V)} {f : Str → Bool} {g : Str → Int} (h : Holds kvs f g) (s : Str) (z : Int) : Holds (putK kvs (Sum.inr s) (.int z)) (fun nm => f nm || decide (nm = s)) (fun nm => if nm = s then z else g nm) := by
  refine ⟨?_, fun kv hkv => ?_, fun nm => ?_⟩
  · cases hv : valV kvs (Sum.inr s) with
    | none => exact nd_putK _ h.nd hv
    | some x =>
      rw [putK_old_keys (by rw [valV_any, hv]; rfl)]
      exact h.nd
  · unfold putK at hkv
    split at hkv
    · obtain ⟨kv', h1, h2⟩ := List.mem_map.mp hkv
      obtain ⟨s', hs'⟩ := h.txt kv' h1
      refine ⟨s', ?_⟩
      rw [← h2]
      split <;> exact hs'
    · rcases List.mem_append.mp hkv with h' | h'
      · exact h.txt kv h'
      · obtain rfl := List.mem_singleton.mp h'
        exact ⟨s, rfl⟩
  · rw [valV_put, h.val]
    by_cases e : nm = s
    · subst e
      simp
    · rw [if_neg (fun z => e (Sum.inr.inj z))]
      simp [e]
def keysS (kvs : List (Key × V)) : List Str := kvs.map fun kv => match kv.1 with | .inr s => s | .inl _ => Str.empty
theorem Holds.keys {kvs : List (Key × V)} {f : Str → Bool} {g : Str → Int} (h : Holds kvs f g) : kvs.map (·.1) = (keysS kvs).map Sum.inr := by
  unfold keysS
  rw [List.map_map]
  apply List.map_congr_left
  intro kv hkv
  obtain ⟨s, hs⟩ := h.txt kv hkv
  show kv.1 = Sum.inr (match kv.1 with | .inr s => s | .inl _ => Str.empty)
  rw [hs]
theorem Holds.keys_nd {kvs : List (Key × V)} {f : Str → Bool} {g : Str → Int} (h : Holds kvs f g) : (keysS kvs).Nodup := by
  have h1 := h.nd
  rw [h.keys] at h1
  exact List.Pairwise.imp (fun hne e => hne (by rw [e])) (List.pairwise_map.mp h1)
theorem Holds.mem {kvs : List (Key × V)} {f : Str → Bool} {g : Str → Int} (h : Holds kvs f g) (nm : Str) : nm ∈ keysS kvs ↔ f nm = true := by
  have h2 : nm ∈ keysS kvs ↔ (Sum.inr nm : Key) ∈ kvs.map (·.1) := by
    rw [h.keys, List.mem_map]
    exact ⟨fun hh => ⟨nm, hh, rfl⟩, fun ⟨x, hx, e⟩ => Sum.inr.inj e ▸ hx⟩
  rw [h2]
  have hv := h.val nm
  by_cases hf : f nm = true
  · rw [if_pos hf] at hv
    exact ⟨fun _ => hf, fun _ => valV_in hv⟩
  · rw [if_neg hf] at hv
    exact ⟨fun hm => absurd hm (valV_not hv), fun hh => absurd hh hf⟩
theorem ev_dget2 {td ty tx : TE} {σ : L2.St} {H : Hp} {a : Addr} {kvs : List (Key × V)} {nm : Str} {z : V} (hd : Ev td σ H (.ref a)) (hy : Ev ty σ H (.str nm)) (hx : Ev tx σ H z) (ha : H a = some (.dK kvs)) : Ev (tDGet2 td ty tx) σ H ((valV kvs (Sum.inr nm)).getD z) := fun H1 e Q q =>
  hd H1 e _ fun H2 e2 => ⟨a, rfl, .inl ⟨kvs, .inl ((e.trans e2) _ _ ha)⟩, hy H2 (e.trans e2) _ fun H3 e3 => hx H3 ((e.trans e2).trans e3) _ fun H4 e4 => ⟨_, DGet.k (k := Sum.inr nm) ((((e.trans e2).trans e3).trans e4) _ _ ha), q H4 ((e2.trans e3).trans e4)⟩⟩
theorem ev_dget {td ty : TE} {σ : L2.St} {H : Hp} {a : Addr} {kvs : List (Key × V)} {nm : Str} {v : V} (hd : Ev td σ H (.ref a)) (hy : Ev ty σ H (.str nm)) (ha : H a = some (.dK kvs)) (hv : valV kvs (Sum.inr nm) = some v) : Ev (tDGet td ty) σ H v := fun H1 e Q q =>
  hd H1 e _ fun H2 e2 => hy H2 (e.trans e2) _ fun H3 e3 => ⟨a, v, rfl, by rw [← hv]; exact DGet.k (k := Sum.inr nm) (((e.trans e2).trans e3) _ _ ha), q H3 (e2.trans e3)⟩
theorem s_dput {td ty tv : TE} {σ : L2.St} {H : Hp} {a : Addr} {kvs : List (Key × V)} {nm : Str} {v : V} {D : Ends} (ha : H a = some (.dK kvs)) (hv : Ev tv σ H v) (hd : Ev td σ H (.ref a)) (hy : Ev ty σ H (.str nm)) (hl : kvs.length < 100000) (k : ∀ H1, Ex H H1 → D.nx σ (upd H1 a (.dK (putK kvs (Sum.inr nm) v)))) : sDPut td ty tv D σ H :=
  hv H (Ex.refl H) _ fun H1 e1 => hd H1 e1 _ fun H2 e2 => hy H2 (e1.trans e2) _ fun H3 e3 => ⟨a, _, rfl, DPut.k (k := Sum.inr nm) (((e1.trans e2).trans e3) _ _ ha) (sz_lt hl), k H3 ((e1.trans e2).trans e3)⟩
theorem q_dnew {σ : L2.St} {H : Hp} {i : Nat} {D : Ends} {tz : TS} (k : ∀ p, H p = none → tz D (σ.set i (some (.ref p))) (upd H p (.dK []))) : tSeq (tAsg tDNewK (gName i)) tz D σ H := fun p hp => k p hp
/-- [(.., ..) for x in a new list] -/
theorem rt_lcT {K : PySem.W.Frag} {tl te : TE} {g : TG} {vs : List Nat} {σ : L2.St} {H : Hp} {Q : VK} {Pc : List V → Prop} (tv : V → List V) (hcall : ∀ R : VK, (∀ xs a H1, Pc xs → Ex H H1 → H1 a = some (.lst xs) → R (.ref a) H1) → tl σ H R) (hz : ∀ xs, Pc xs → xs.length ≤ 40000)
    (hs : ∀ (xs : List V) (i : Nat) (x : V) Hb, Pc xs → Ex H Hb → xs[i]? = some x → ∃ σ2, Tgt g x (wipe σ vs) σ2 Hb ∧ wipe σ2 vs = wipe σ vs ∧ EvU te σ2 Hb (tv x))
    (k : ∀ (xs : List V) (as : List Addr) Dl H', Pc xs → as.length = xs.length → (∀ (i : Nat) (a : Addr) (x : V), as[i]? = some a → xs[i]? = some x → H' a = some (.tup (tv x))) → H Dl = none → Ex H H' → H' Dl = some (.lst (as.map V.ref)) → Q (.ref Dl) H') : tLc (iList K tl) g tYes te vs σ H Q := by
  refine hcall _ fun xs a H1 hP e1 h1 => ⟨a, rfl, ⟨xs, sq_of h1⟩, fun Dl hD => ?_⟩
  refine lc_list (xs := xs) (fun i H' => H1 Dl = none ∧ Ex H1 H' ∧ ∃ as : List Addr, as.length = i ∧ (∀ (j : Nat) (b : Addr) (x : V), as[j]? = some b → xs[j]? = some x → H' b = some (.tup (tv x))) ∧ H' Dl = some (.lst (as.map V.ref))) ⟨hD, Ex.new hD, [], rfl, fun j b x hb => by simp at hb, upd_same⟩ (fun i H' _ p => sq_of (p.2.1 a _ h1)) (fun i x H' hi p => ?_) (fun H' p => ?_)
  · obtain ⟨p1, p2, as, hl, ha, hDl⟩ := p
    obtain ⟨σ2, t1, t2, t3⟩ := hs xs i x H1 hP e1 hi
    refine t1 H' p2 _ ⟨t2, ?_⟩
    refine et_yes H' (Ex.refl _) _ fun H3 e3 => ?_
    rw [if_pos rfl]
    refine t3 H3 (p2.trans e3) _ fun tp H4 htp e4' h4 => ?_
    have e4 := e3.trans e4'
    have hne : tp ≠ Dl := ne_of h4 (e4 _ _ hDl) (fun z => nomatch z)
    have hlen : as.length < 40000 := by
      have := hz xs hP
      have := (List.getElem?_eq_some_iff.mp hi).1
      omega
    refine ⟨as.map V.ref, e4 _ _ hDl, sz_lt (by rw [List.length_map]; omega), p1, Ex.mut (p2.trans e4) p1, as ++ [tp], by rw [List.length_append, hl]; rfl, fun j b y hb hy => ?_, by rw [upd_same, List.map_append]; rfl⟩
    have hbD : ∀ b y, H4 b = some (.tup y) → (upd H4 Dl (.lst (as.map V.ref ++ [.ref tp]))) b = some (.tup y) := fun b y hb => by
      rw [upd_ne (ne_of hb (e4 _ _ hDl) (fun z => nomatch z))]
      exact hb
    by_cases hj : j < as.length
    · rw [List.getElem?_append_left hj] at hb
      exact hbD _ _ (e4 _ _ (ha j b y hb hy))
    · have hj2 : j = as.length := by
        have := (List.getElem?_eq_some_iff.mp hb).1
        rw [List.length_append] at this
        simp at this
        omega
      subst hj2
      rw [List.getElem?_append_right (Nat.le_refl _), Nat.sub_self] at hb
      obtain rfl : tp = b := Option.some.inj hb
      rw [hl] at hy
      rw [hi] at hy
      obtain rfl := Option.some.inj hy
      exact hbD _ _ h4
  · obtain ⟨p1, p2, as, hl, ha, hDl⟩ := p
    exact k xs as Dl H' hP hl ha (fresh_back e1 p1) (e1.trans p2) hDl
section
variable {P : Program} {w : World} {K : PySem.W.Frag} {mg : Str → Option Value} {base : Heap}
def debtsOf (ts : List Trn) : List Debt := ts.map (·.2)
def spNetRows (K : PySem.W.Frag) : Sp := fun vs H Q _ => ∃ (a : Addr) (ts : List Trn) (pool : List Str), vs = [.ref a] ∧ SqL K H a (trefs ts) ∧ TT3 H ts ∧ ts.length ≤ 1000 ∧ pool.length ≤ 60 ∧ (∀ t ∈ ts, t.2.1 ∈ pool ∧ t.2.2.1 ∈ pool) ∧
  ∀ (qs : List Net) H' p, H p = none → Ex H H' → H' p = some (.lst (nrefs qs)) → TN H' qs → (nmsOf qs).Pairwise LtS → (∀ nm, nm ∈ nmsOf qs ↔ namedIn (debtsOf ts) nm = true) → (∀ q ∈ qs, q.2.2 = moved (debtsOf ts) q.2.1) → qs.length ≤ 60 → Q (.ref p) H'
theorem trefs_at {ts : List Trn} {i : Nat} {x : V} (h : (trefs ts)[i]? = some x) : ∃ t, ts[i]? = some t ∧ x = .ref t.1 := by
  unfold trefs at h
  rw [List.getElem?_map] at h
  cases hc : ts[i]? with
  | none => rw [hc] at h; cases h
  | some c => rw [hc] at h; exact ⟨c, rfl, (Option.some.inj h).symm⟩
theorem ok_net_rows {f : Addr} {fd : FuncData} {k : Nat} (F : Fun K "net_rows" "net_rows" s_net_rows f fd) (T : Top K mg) : FnOk P w K mg base CX0 (k + 1) f fd ["debts"] (spNetRows K) := by
  have nd := sc_net_rows.nd
  refine F.ok sc_net_rows (fun vs H Q E h => ?_) (fun cdv A outer s H vs Q E hr h => ?_)
  · obtain ⟨a, ts, pool, rfl, _⟩ := h
    rfl
  · obtain ⟨a, ts, pool, rfl, hS, hT, hn, hpl, hpool, q⟩ := h
    refine ⟨_, (pss_cons (ps_set (i := 1) nd rfl (.inr rfl) pe_dnewK)
      (pss_cons (ps_for PassesOwn.never rfl (pi_list (pv 0)) (pg_tup rfl (pgs_cons (pg_name (i := 2) nd rfl (.inl rfl)) (pgs_cons (pg_name (i := 3) nd rfl (.inl rfl)) (pgs_cons (pg_name (i := 4) nd rfl (.inl rfl)) pgs_nil))))
        (pss_cons (ps_dput (hu_of hr) (pv 1) (pv 2) (pe_op op_sub (pe_dget2 (hu_of hr) (pv 1) (pv 2) pe_int ⟨rfl, rfl, rfl, rfl⟩) (pv 4)) rfl)
          (pss_one (ps_dput (hu_of hr) (pv 1) (pv 3) (pe_op op_add (pe_dget2 (hu_of hr) (pv 1) (pv 3) pe_int ⟨rfl, rfl, rfl, rfl⟩) (pv 4)) rfl))))
      (pss_one (ps_ret (pe_lc (own := [("name", 5)]) (g := gName 5) (tt := tYes) rfl nd (pi_list (pe_callB (call_sortedD rfl) (by rfl) T.m_sorted (by decide +kernel) (pa_cons (pv 1) pa_nil))) (blkOk_by (own := [("name", 5)]) (N := Su.N_net_rows) (sc := defScope s_net_rows) (by decide +kernel)) (fun _ _ _ _ _ => (pg_name (i := 5) nd rfl (.inl rfl))) (fun _ _ _ _ _ => pts_nil) (fun _ _ _ _ _ => (pe_tup (pa_cons (pv 5) (pa_cons (pe_dget (hu_of hr) (pv 1) (pv 5) (fun _ _ => rfl)) pa_nil))))))))), ?_⟩
    refine q_dnew fun d hd => ?_
    have ex0 : Ex H (upd H d (.dK [])) := Ex.new hd
    have hdl : ∀ {Hx : Hp} {kvs : List (Key × V)} {a : Addr} {xs : List V}, SqL K H a xs → a ≠ d ∨ True := fun _ => .inr trivial
    refine q_forL (g := gTup K 3 (gCons (gName 2) (gCons (gName 3) (gCons (gName 4) gNil)))) (by walk_at "ev") (ex_l ex0 hS) (fun i σ' H' => ∃ (kvs : List (Key × V)) (f : Str → Bool) (g : Str → Int) (y2 y3 y4 : Option V), σ' = [some (.ref a), some (.ref d), y2, y3, y4, none] ∧ Ex H H' ∧ H' d = some (.dK kvs) ∧ Holds kvs f g ∧ (∀ nm, f nm = namedIn (debtsOf (ts.take i)) nm) ∧ (∀ nm, f nm = true → g nm = moved (debtsOf (ts.take i)) nm) ∧ kvs.length ≤ 2 * i) ?_ ?_ ?_ ?_
    · intro H1 e1
      exact ⟨[], fun _ => false, fun _ => 0, none, none, none, rfl, ex0.trans e1, ex_g e1 upd_same, Holds.nil, (fun nm => by rw [List.take_zero]; rfl), (fun nm h => by cases h), Nat.zero_le _⟩
    · rintro i σ' H' _ ⟨kvs, f, g, y2, y3, y4, rfl, ex, _⟩
      exact ex_l ex hS
    · rintro i x σ' H' hx ⟨kvs, f, g, y2, y3, y4, rfl, ex, hd', hH, hf, hg, hlen⟩
      obtain ⟨t, gt, rfl⟩ := trefs_at hx
      have hi : i < ts.length := (List.getElem?_eq_some_iff.mp gt).1
      have ht := (hT.ex ex) t (List.mem_of_getElem? gt)
      refine tg_three (st_of ht) tg_name tg_name tg_name H' (Ex.refl _) _ ?_
      have tk : ∀ nm, namedIn (debtsOf (ts.take (i + 1))) nm = (namedIn (debtsOf (ts.take i)) nm || (decide (t.2.1 = nm) || decide (t.2.2.1 = nm))) := fun nm => by
        rw [List.take_succ, gt]
        unfold debtsOf
        rw [List.map_append]
        exact named_snoc _ _ nm
      have tm : ∀ nm, moved (debtsOf (ts.take (i + 1))) nm = moved (debtsOf (ts.take i)) nm + (if t.2.1 = nm then -t.2.2.2 else 0) + (if t.2.2.1 = nm then t.2.2.2 else 0) := fun nm => by
        rw [List.take_succ, gt]
        unfold debtsOf
        rw [List.map_append]
        exact moved_snoc _ _ nm
      have g0 : ∀ nm, (valV kvs (Sum.inr nm)).getD (.int 0) = .int (moved (debtsOf (ts.take i)) nm) := fun nm => by
        rw [hH.val]
        by_cases h : f nm = true
        · rw [if_pos h, hg nm h]
          rfl
        · rw [if_neg h, moved_not (by rw [← hf nm]; exact Bool.eq_false_iff.mpr h)]
          rfl
      refine s_dput (nm := t.2.1) (v := .int (moved (debtsOf (ts.take i)) t.2.1 - t.2.2.2)) hd' (ev_op (ev_is (ev_dget2 (nm := t.2.1) (ev_var rfl) (ev_var rfl) ev_c hd') (g0 _)) (ev_var rfl) rv_I0) (ev_var rfl) (ev_var rfl) (by omega) fun H2 e2 => ?_
      have h1 := hH.put t.2.1 (moved (debtsOf (ts.take i)) t.2.1 - t.2.2.2)
      have hd2 : (upd H2 d (.dK (putK kvs (Sum.inr t.2.1) (.int (moved (debtsOf (ts.take i)) t.2.1 - t.2.2.2))))) d = some (.dK (putK kvs (Sum.inr t.2.1) (.int (moved (debtsOf (ts.take i)) t.2.1 - t.2.2.2)))) := upd_same
      have ex2 : Ex H (upd H2 d (.dK (putK kvs (Sum.inr t.2.1) (.int (moved (debtsOf (ts.take i)) t.2.1 - t.2.2.2))))) := ex_up (ex.trans e2) hd
      have pl : ∀ (kvs : List (Key × V)) k v, (putK kvs k v).length ≤ kvs.length + 1 := fun kvs k v => by
        unfold putK
        split
        · rw [List.length_map]
          omega
        · rw [List.length_append]
          exact Nat.le_refl _
      have l1 := pl kvs (Sum.inr t.2.1) (.int (moved (debtsOf (ts.take i)) t.2.1 - t.2.2.2))
      generalize upd H2 d (.dK (putK kvs (Sum.inr t.2.1) (.int (moved (debtsOf (ts.take i)) t.2.1 - t.2.2.2)))) = H3 at hd2 ex2 ⊢
      generalize putK kvs (Sum.inr t.2.1) (.int (moved (debtsOf (ts.take i)) t.2.1 - t.2.2.2)) = kvs1 at h1 hd2 l1
      have g1 : (valV kvs1 (Sum.inr t.2.2.1)).getD (.int 0) = .int (moved (debtsOf (ts.take i)) t.2.2.1 + (if t.2.1 = t.2.2.1 then -t.2.2.2 else 0)) := by
        rw [h1.val]
        by_cases e : t.2.2.1 = t.2.1
        · simp only [e, decide_true, Bool.or_true, if_true]
          rfl
        · rw [if_neg (show ¬ t.2.1 = t.2.2.1 from fun z => e z.symm)]
          simp only [e, decide_false, Bool.or_false, if_false]
          have := g0 t.2.2.1
          rw [hH.val] at this
          rw [this, Int.add_zero]
      refine s_dput (nm := t.2.2.1) (v := .int (moved (debtsOf (ts.take i)) t.2.2.1 + (if t.2.1 = t.2.2.1 then -t.2.2.2 else 0) + t.2.2.2)) hd2 (ev_op (ev_is (ev_dget2 (nm := t.2.2.1) (ev_var rfl) (ev_var rfl) ev_c hd2) g1) (ev_var rfl) rv_I0) (ev_var rfl) (ev_var rfl) (by omega) fun H4 e4 => ?_
      have l2 := pl kvs1 (Sum.inr t.2.2.1) (.int (moved (debtsOf (ts.take i)) t.2.2.1 + (if t.2.1 = t.2.2.1 then -t.2.2.2 else 0) + t.2.2.2))
      refine ⟨_, _, _, _, _, _, rfl, ex_up (ex2.trans e4) hd, upd_same, h1.put t.2.2.1 (moved (debtsOf (ts.take i)) t.2.2.1 + (if t.2.1 = t.2.2.1 then -t.2.2.2 else 0) + t.2.2.2), fun nm => ?_, fun nm hnm => ?_, by omega⟩
      · rw [tk, hf]
        show ((namedIn (debtsOf (ts.take i)) nm || decide (nm = t.2.1)) || decide (nm = t.2.2.1)) = _
        rw [Bool.or_assoc]
        congr 2
        · exact decide_eq_decide.mpr ⟨Eq.symm, Eq.symm⟩
        · exact decide_eq_decide.mpr ⟨Eq.symm, Eq.symm⟩
      · rw [tm]
        show (if nm = t.2.2.1 then _ else if nm = t.2.1 then _ else g nm) = _
        by_cases e1 : nm = t.2.2.1
        · subst e1
          rw [if_pos rfl, if_pos rfl]
        · rw [if_neg e1, if_neg (show ¬ t.2.2.1 = nm from fun z => e1 z.symm)]
          by_cases e2' : nm = t.2.1
          · subst e2'
            rw [if_pos rfl, if_pos rfl]
            omega
          · rw [if_neg e2', if_neg (show ¬ t.2.1 = nm from fun z => e2' z.symm)]
            have hfn : f nm = true := by
              have hnm : ((f nm || decide (nm = t.2.1)) || decide (nm = t.2.2.1)) = true := hnm
              simp only [e1, e2', decide_false, Bool.or_false] at hnm
              exact hnm
            rw [hg nm hfn]
            omega
    · rintro σ' H' ⟨kvs, f, g, y2, y3, y4, rfl, ex, hd', hH, hf, hg, hlen⟩
      have hfull : ts.take (trefs ts).length = ts := by
        unfold trefs
        rw [List.length_map, List.take_length]
      rw [hfull] at hf hg
      have hsub : ∀ s ∈ keysS kvs, s ∈ pool := fun s hs => by
        have h1 := (hH.mem s).mp hs
        rw [hf] at h1
        unfold namedIn debtsOf at h1
        rw [List.any_eq_true] at h1
        obtain ⟨d', hd1, hd2⟩ := h1
        obtain ⟨t, ht, rfl⟩ := List.mem_map.mp hd1
        simp only [Bool.or_eq_true, decide_eq_true_eq] at hd2
        rcases hd2 with e | e
        · rw [← e]
          exact (hpool t ht).1
        · rw [← e]
          exact (hpool t ht).2
      have hkl : (keysS kvs).length ≤ 60 := Nat.le_trans (nodup_le hH.keys_nd hsub) hpl
      show tLc _ _ _ _ _ _ _ _
      refine rt_lcT (Pc := fun xs => ∃ ys : List Str, xs = ys.map V.str ∧ ys.Perm (keysS kvs) ∧ sortedS ys = true) (fun x => [x, match x with | .str s => .int (g s) | _ => .non]) ?_ ?_ ?_ ?_
      · intro R hR
        refine (show EvA (tCons (tVar 1) tNil) _ H' [.ref d] from by walk_at "ea") H' (Ex.refl _) _ fun H2 e2 => ?_
        exact ⟨d, kvs, keysS kvs, rfl, .inl (ex_g e2 hd'), hH.keys, by omega, fun ys p hper hso hp => hR _ p _ ⟨ys, rfl, hper, hso⟩ (e2.trans (Ex.new hp)) upd_same⟩
      · rintro _ ⟨ys, rfl, hper, _⟩
        rw [List.length_map, hper.length_eq]
        omega
      · rintro _ i x Hb ⟨ys, rfl, hper, _⟩ eb hx
        obtain ⟨s, hs, rfl⟩ : ∃ s, ys[i]? = some s ∧ x = .str s := by
          rw [List.getElem?_map] at hx
          cases hc : ys[i]? with
          | none => rw [hc] at hx; cases hx
          | some c => rw [hc] at hx; exact ⟨c, rfl, (Option.some.inj hx).symm⟩
        have hm := (hH.mem s).mp (hper.mem_iff.mp (List.mem_of_getElem? hs))
        refine ⟨_, tg_name, rfl, eu_tup (ea_cons (ev_var rfl) (ea_cons (ev_dget (nm := s) (ev_var rfl) (ev_var rfl) (ex_g eb hd') ?_) ea_nil)) (by show 2 ≤ 100000; decide)⟩
        rw [hH.val, if_pos hm]
      · rintro _ as Dl H2 ⟨ys, rfl, hper, hso⟩ hal htup hDl e2 hlst
        rw [List.length_map] at hal
        have hynd : ys.Nodup := hper.nodup_iff.mpr hH.keys_nd
        have hz : (as.zip ys).map (fun p => p.1) = as := List.map_fst_zip (by omega)
        have hz2 : (as.zip ys).map (fun p => p.2) = ys := List.map_snd_zip (by omega)
        refine q ((as.zip ys).map fun p => (p.1, p.2, g p.2)) H2 Dl (fresh_back ex hDl) (ex.trans e2) ?_ ?_ ?_ ?_ ?_ ?_
        · rw [hlst]
          unfold nrefs
          rw [List.map_map]
          congr 2
          conv => lhs; rw [← hz]
          rw [List.map_map]
          rfl
        · intro q' hq'
          obtain ⟨⟨b, s⟩, hp, rfl⟩ := List.mem_map.mp hq'
          obtain ⟨i, hi⟩ := List.mem_iff_getElem?.mp hp
          obtain ⟨h1, h2⟩ := List.getElem?_zip_eq_some.mp hi
          exact htup i b (.str s) h1 (by rw [List.getElem?_map, h2]; rfl)
        · have : nmsOf ((as.zip ys).map fun p => (p.1, p.2, g p.2)) = ys := by
            unfold nmsOf
            rw [List.map_map]
            exact hz2
          rw [this]
          exact sorted_strict hso hynd
        · intro nm
          have : nmsOf ((as.zip ys).map fun p => (p.1, p.2, g p.2)) = ys := by
            unfold nmsOf
            rw [List.map_map]
            exact hz2
          rw [this, hper.mem_iff, hH.mem, hf]
        · intro q' hq'
          obtain ⟨⟨b, s⟩, hp, rfl⟩ := List.mem_map.mp hq'
          have hs : s ∈ ys := by
            rw [← hz2]
            exact List.mem_map.mpr ⟨(b, s), hp, rfl⟩
          exact hg s ((hH.mem s).mp (hper.mem_iff.mp hs))
        · rw [List.length_map, List.length_zip]
          have := hper.length_eq
          omega
end

end Su
namespace Su
/-! ### more ways of calls -/
theorem s_forE1 {K : PySem.W.Frag} {te : TE} {g : TG} {tb : TS} {D : Ends} {σ : L2.St} {H : Hp} {Pc : Addr → Hp → Prop} (hcall : ∀ Q : VK, (∀ p H1, Pc p H1 → Q (.ref p) H1) → te σ H Q) (k : ∀ p H1, Pc p H1 → tFor (iEnum K (tCons (tC (.ref p)) tNil)) g tb D σ H1) :
    tFor (iEnum K (tCons te tNil)) g tb D σ H := hcall _ fun p H1 h => k p H1 h
theorem s_tryw1 {sp : Sp} {W : WX} {te : TE} {xs : List V} {σ : L2.St} {H : Hp} {i : Nat} {D : Ends} (h : EvL te σ H xs) (hs : ∀ p H1, H p = none → Ex H H1 → H1 p = some (.lst xs) → sp [.ref p] H1 (fun v H2 => D.nx (σ.set i (some v)) H2) (WE W σ)) : tAsg (tCallS sp (WE W) (tCons te tNil)) (gName i) D σ H :=
  h H (Ex.refl H) _ fun p H1 hp e1 h1 => hs p H1 hp e1 h1
theorem rc_isi_lst {K : PySem.W.Frag} {H : Hp} {p : Addr} {xs : List V} {n : String} {b : Bool} (h : H p = some (.lst xs)) (hk : kitB "list" n = some b) : RC (rIsi K) [.ref p, .ty n] H (.bl b) :=
  fun H1 e _ q => ⟨.ref p, .ty n, .type "list", .type n, b, rfl, .ty n, .base (.lst (e _ _ h)), kit_ty hk, q H1 (Ex.refl H1)⟩
theorem int_eq {i j : Int} : decide (V.int i = V.int j) = decide (i = j) := by
  by_cases h : i = j
  · rw [h, decide_eq_true rfl, decide_eq_true rfl]
  · rw [decide_eq_false h, decide_eq_false (fun z => h (V.int.inj z))]
theorem q_callQ {sp : Sp} {dvs vs : List V} {E : XK} {ta : TA} {σ : L2.St} {H : Hp} {i : Nat} {D : Ends} {tz : TS} (h : EvA ta σ H vs) (k : ∀ H1, Ex H H1 → sp (vs ++ dvs) H1 (fun v H2 => tz D (σ.set i (some v)) H2) E) : tSeq (tAsg (tCall sp dvs E ta) (gName i)) tz D σ H :=
  h H (Ex.refl H) _ fun H1 e1 => k H1 e1

end Su
namespace Su
section
variable {P : Program} {w : World} {K : PySem.W.Frag} {mg : Str → Option Value} {base : Heap}
def spLaw (K : PySem.W.Frag) : Sp := fun vs H Q _ => ∃ (a : Addr) (ns : List Int), vs = [.ref a] ∧ SqL K H a (ns.map V.int) ∧ ns.length ≤ 63 ∧ ∀ H', Q (.bl true) H'
theorem s_forL1 {tl : TE} {g : TG} {tb : TS} {D : Ends} {σ : L2.St} {H : Hp} {Pc : Addr → Hp → Prop} (hcall : ∀ Q : VK, (∀ p H1, Pc p H1 → Q (.ref p) H1) → tl σ H Q) (k : ∀ p H1, Pc p H1 → tFor (iList K (tC (.ref p))) g tb D σ H1) : tFor (iList K tl) g tb D σ H := hcall _ fun p H1 h => k p H1 h
theorem at_strs {ws : List Str} {z : Int} (h0 : 0 ≤ z) (h : z < (ws.map V.str).length) : atI (ws.map V.str) z = some (.str (ws.getD z.toNat Str.empty)) := by
  rw [List.length_map] at h
  have hl : z.toNat < ws.length := by omega
  refine at_of (show z = ((z.toNat : Nat) : Int) by omega) ?_
  rw [List.getElem?_map, List.getElem?_eq_getElem hl, List.getD_eq_getElem?_getD, List.getElem?_eq_getElem hl]
  rfl
theorem getD_mem {ws : List Str} {z : Int} (h0 : 0 ≤ z) (h : z < (ws.map V.str).length) : ws.getD z.toNat Str.empty ∈ ws := by
  rw [List.length_map] at h
  have hl : z.toNat < ws.length := by omega
  rw [List.getD_eq_getElem?_getD, List.getElem?_eq_getElem hl]
  exact List.getElem_mem hl
theorem str_eq {i j : Str} : decide (V.str i = V.str j) = decide (i = j) := by
  by_cases h : i = j
  · rw [h, decide_eq_true rfl, decide_eq_true rfl]
  · rw [decide_eq_false h, decide_eq_false (fun z => h (V.str.inj z))]
theorem shaped_trn (l : List (Str × Str × Int)) (h : ∀ t ∈ l, PyData.strOk t.1 = true ∧ PyData.strOk t.2.1 = true) : SeqAt.shaped (trnD l) = true := by
  have h1 : ∀ l : List (Str × Str × Int), (∀ t ∈ l, PyData.strOk t.1 = true ∧ PyData.strOk t.2.1 = true) → PyData.canLayAll0 (l.map fun t => .tuple [.str t.1, .str t.2.1, .int t.2.2]) = true := by
    intro l
    induction l with
    | nil => intro _; simp [PyData.canLayAll0]
    | cons a r ih =>
      intro hl
      have ha := hl a List.mem_cons_self
      have hr := ih fun q hq => hl q (List.mem_cons_of_mem _ hq)
      simp [PyData.canLayAll0, PyData.canLay0, hr, ha.1, ha.2]
  have h2 : ∀ l : List (Str × Str × Int), PyData.depthAll (l.map fun t => .tuple [.str t.1, .str t.2.1, .int t.2.2]) ≤ 1 := by
    intro l
    induction l with
    | nil => simp [PyData.depthAll]
    | cons a r ih =>
      simp only [List.map_cons, PyData.depthAll, PyData.depth]
      omega
  unfold SeqAt.shaped trnD
  rw [Bool.and_eq_true]
  refine ⟨?_, ?_⟩
  · simp only [PyData.canLay0]
    exact h1 l h
  · simp only [PyData.depth]
    have := h2 l
    exact decide_eq_true (by omega)
theorem netD_eq {qs qs' : List Net} (h : qs.map (·.2) = qs'.map (·.2)) : netD qs = netD qs' := by
  have e : ∀ l : List Net, (l.map fun q => PyData.tuple [.str q.2.1, .int q.2.2]) = (l.map (·.2)).map fun q => PyData.tuple [.str q.1, .int q.2] := fun l => by
    rw [List.map_map]
    rfl
  unfold netD
  rw [e, e, h]
theorem pl_net {qs : List Net} (h : qs.length ≤ 1000) : PlD 2 (netD qs) := .list (by rw [List.length_map]; exact h) fun x hx => by
  obtain ⟨t, _, rfl⟩ := List.mem_map.mp hx
  refine .tuple (by show 2 ≤ 1000; decide) fun y hy => ?_
  rcases List.mem_cons.mp hy with rfl | hy
  · exact .str _
  obtain rfl := List.mem_singleton.mp hy
  exact .int _
theorem rows_of {qs : List Net} {ds : List Debt} (h : ∀ q ∈ qs, q.2.2 = moved ds q.2.1) : qs.map (·.2) = (nmsOf qs).map fun nm => (nm, moved ds nm) := by
  unfold nmsOf
  rw [List.map_map]
  apply List.map_congr_left
  intro q hq
  show q.2 = (q.2.1, moved ds q.2.1)
  rw [← h q hq]
theorem ok_law {f : Addr} {fd : FuncData} (F : Fun K "law" "law" s_law f fd) (T : Top K mg) : FnOk P w K mg base CX0 4 f fd ["_law_script"] (spLaw K) := by
  have nd := sc_law.nd
  have G__law_draws : FnOk P w K mg base CX0 1 T.f__law_draws T.fd__law_draws ["_law_script", "_law_many"] (spDraws K) := ok__law_draws T.F__law_draws T
  have G_net_rows : FnOk P w K mg base CX0 1 T.f_net_rows T.fd_net_rows ["debts"] (spNetRows K) := ok_net_rows T.F_net_rows T
  have G__law_names : FnOk P w K mg base CX0 1 T.f__law_names T.fd__law_names ["_law_some", "_law_many"] (spNames K) := ok__law_names T.F__law_names T
  have G__law_same : FnOk P w K mg base CX0 3 T.f__law_same T.fd__law_same ["_law_told", "_law_due"] (spSame K 2) := ok__law_same T 2
  refine F.ok sc_law (fun vs H Q E h => ?_) (fun cdv A outer s H vs Q E hr h => ?_)
  · obtain ⟨a, ns, rfl, _⟩ := h
    rfl
  · obtain ⟨a, ns, rfl, hS, hlen, q⟩ := h
    refine ⟨_, (pss_cons (ps_set (i := 1) nd rfl (.inl rfl) (pe_call G__law_draws (hr.mono (by decide)) (by rfl) T.m__law_draws T.F__law_draws.kp T.b__law_draws .nil pass0 (pa_cons (pv 0) (pa_cons pe_int pa_nil))))
      (pss_cons (ps_set (i := 2) nd rfl (.inl rfl) (pe_call G__law_names (hr.mono (by decide)) (by rfl) T.m__law_names T.F__law_names.kp T.b__law_names .nil pass0 (pa_cons (pe_slice sl_list (pv 1) (po_some pe_int) po_none) (pa_cons (pe_op op_add pe_int (pe_op op_mod (pe_ix ix_list (pv 1) pe_int (fun _ _ => rfl)) pe_int)) pa_nil))))
      (pss_cons (ps_set (i := 3) nd rfl (.inl rfl) (pe_lst pa_nil))
      (pss_cons (ps_set (i := 4) nd rfl (.inl rfl) (pe_op op_mod (pe_ix ix_list (pv 1) pe_int (fun _ _ => rfl)) pe_int))
      (pss_cut (ps_if (pt_cmpR op_eq (pe_op op_mod (pe_op op_fdiv (pe_ix ix_list (pv 1) pe_int (fun _ _ => rfl)) pe_int) pe_int) pe_int (nomark _))
        (pss_one (ps_set (i := 4) nd rfl (.inl rfl) (pe_op op_mod (pe_ix ix_list (pv 1) pe_int (fun _ _ => rfl)) pe_int)))
        pss_nil)
      (pss_cons (ps_for PassesOwn.never rfl (pi_range1 rfl T.m_range (pa_cons (pv 4) pa_nil)) (pg_name (i := 5) nd rfl (.inl rfl))
        (pss_cons (ps_set (i := 6) nd rfl (.inl rfl) (pe_ix ix_list (pv 2) (pe_op op_mod (pe_ix ix_list (pv 1) (pe_op op_add pe_int (pe_op op_mul pe_int (pv 5))) (fun _ _ => rfl)) (pe_callB call_len_seq (by rfl) T.m_len PySem.boot_len (pa_cons (pv 2) pa_nil))) (fun _ _ => rfl)))
          (pss_cons (ps_set (i := 7) nd rfl (.inl rfl) (pe_ix ix_list (pv 2) (pe_op op_mod (pe_ix ix_list (pv 1) (pe_op op_add pe_int (pe_op op_mul pe_int (pv 5))) (fun _ _ => rfl)) (pe_callB call_len_seq (by rfl) T.m_len PySem.boot_len (pa_cons (pv 2) pa_nil))) (fun _ _ => rfl)))
          (pss_one (ps_expr (pe_bm PySem.F.plainAttrs_list PySem.F.slot_list_append PySem.F.type_list_append mt_append (pv 3) (pa_cons (pe_tup (pa_cons (pv 6) (pa_cons (pv 7) (pa_cons (pe_callB call_abs (by rfl) T.m_abs (by decide +kernel) (pa_cons (pe_ix ix_list (pv 1) (pe_op op_add pe_int (pe_op op_mul pe_int (pv 5))) (fun _ _ => rfl)) pa_nil)) pa_nil)))) pa_nil)))))))
      (pss_cons (ps_set (i := 8) nd rfl (.inl rfl) (pe_lst pa_nil))
      (pss_cons (ps_for PassesOwn.never rfl (pi_list (pe_callB cr_sortedS (by rfl) T.m_sorted (by decide +kernel) (pa_cons (pv 2) pa_nil))) (pg_name (i := 9) nd rfl (.inl rfl))
        (pss_cons (ps_set (i := 10) nd rfl (.inl rfl) pe_int)
          (pss_cons (ps_set (i := 11) nd rfl (.inl rfl) pe_bl)
          (pss_cons (ps_for PassesOwn.never rfl (pi_list (pv 3)) (pg_tup rfl (pgs_cons (pg_name (i := 6) nd rfl (.inl rfl)) (pgs_cons (pg_name (i := 7) nd rfl (.inl rfl)) (pgs_cons (pg_name (i := 12) nd rfl (.inl rfl)) pgs_nil))))
            (pss_cut (ps_if (pt_cmpR op_eq (pv 6) (pv 9) (nomark _))
                (pss_cons (ps_set (i := 10) nd rfl (.inl rfl) (pe_op op_sub (pv 10) (pv 12)))
                  (pss_one (ps_set (i := 11) nd rfl (.inl rfl) pe_bl)))
                pss_nil)
              (pss_one (ps_if (pt_cmpR op_eq (pv 7) (pv 9) (nomark _))
                (pss_cons (ps_set (i := 10) nd rfl (.inl rfl) (pe_op op_add (pv 10) (pv 12)))
                  (pss_one (ps_set (i := 11) nd rfl (.inl rfl) pe_bl)))
                pss_nil))))
          (pss_one (ps_if (pt_val (pv 11))
            (pss_one (ps_expr (pe_bm PySem.F.plainAttrs_list PySem.F.slot_list_append PySem.F.type_list_append mt_append (pv 8) (pa_cons (pe_tup (pa_cons (pv 9) (pa_cons (pv 10) pa_nil))) pa_nil))))
            pss_nil))))))
      (pss_cons (ps_set (i := 13) nd rfl (.inl rfl) (pe_callTy call_list_of (by rfl) T.m_list (by decide +kernel) (pa_cons (pv 3) pa_nil)))
      (pss_cons (ps_set (i := 14) nd rfl (.inl rfl) (pe_call G_net_rows (hr.mono (by decide)) (by rfl) T.m_net_rows T.F_net_rows.kp T.b_net_rows .nil pass0 (pa_cons (pv 13) pa_nil)))
      (pss_cons (ps_if (PW.pt (pw_or (pt_cmpR (op_neD hr.units) (pv 13) (pv 3) (nomark _)) (pw_or1 (pt_not (pt_val (pe_call G__law_same (hr.mono (by decide)) (by rfl) T.m__law_same T.F__law_same.kp T.b__law_same .nil pass0 (pa_cons (pv 14) (pa_cons (pv 8) pa_nil))))))))
        (pss_one (ps_ret pe_bl))
        pss_nil)
      (pss_cons (ps_expr (pe_bm PySem.F.plainAttrs_list PySem.F.slot_list_append PySem.F.type_list_append mt_append (pv 14) (pa_cons (pe_tup (pa_cons pe_str (pa_cons pe_int pa_nil))) pa_nil)))
      (pss_one (ps_ret (pe_call G__law_same (hr.mono (by decide)) (by rfl) T.m__law_same T.F__law_same.kp T.b__law_same .nil pass0 (pa_cons (pe_call G_net_rows (hr.mono (by decide)) (by rfl) T.m_net_rows T.F_net_rows.kp T.b_net_rows .nil pass0 (pa_cons (pv 13) pa_nil)) (pa_cons (pv 8) pa_nil))))))))))))))))), ?_⟩
    refine q_callN (by walk_at "ea") (spN_draws (m := 200) hS hlen (by decide)) ?_
    rintro _ p H1 ⟨rows, hR, rfl⟩ hp e1 h1
    have hl := hR.1
    have hs := sq_of (K := K) h1
    obtain ⟨n, hn⟩ : ∃ n : Nat, 1 + rows.getD (Int.toNat 0) 0 % 8 = (n : Int) := ⟨(1 + rows.getD (Int.toNat 0) 0 % 8).toNat, by omega⟩
    have hn2 : 1 ≤ n ∧ n ≤ 8 := by omega
    refine s_callN1 (P := fun xs => ∃ ws : List Str, xs = ws.map V.str ∧ ws.length = n ∧ ws.Nodup ∧ ∀ z ∈ ws, NameOk z) (el_sl (by walk_at "ev") (eo_some (by walk_at "ev")) eo_none hs) (ea_cons (ev_is (by walk_at "ev") (congrArg V.int hn)) ea_nil) (fun p0 H4 e4 h4 => ?_) ?_
    · rw [show (1 : Int) = ((1 : Nat) : Int) from rfl, cut_from, ← List.map_drop] at h4
      exact fun H5 e5 Q1 q1 E1 => ⟨p0, rows.drop 1, n, rfl, sq_of (ex_g e5 h4), by rw [List.length_drop]; omega, by omega, fun x hx => hR.2.2 x (List.mem_of_mem_drop hx), fun ws H6 p1 hp1 e6 h6 hwl hnd hok => q1 _ p1 H6 ⟨ws, rfl, hwl, hnd, hok⟩ hp1 e6 h6⟩
    rintro _ pp H2 ⟨ws, rfl, hwl, hwn, hok⟩ hpp e2 h2
    have hs := ex_l e2 hs
    dsimp only
    refine q_asgL (el_lst ea_nil (by decide)) fun dp H3 hdp e3 h3 => ?_
    have hs := ex_l e3 hs
    have h2 := ex_g e3 h2
    have hpd : pp ≠ dp := ne_of_none (show H2 pp = some _ by assumption) hdp
    refine q_asg (by walk_at "ev") fun H4 e4 => ?_
    have hs := ex_l e4 hs
    refine q_cut (M := fun σ' H' => ∃ m : Nat, σ' = [some (.ref a), some (.ref p), some (.ref pp), some (.ref dp), some (.int (m : Int)), none, none, none, none, none, none, none, none, none, none] ∧ m ≤ 60 ∧ Ex H4 H') ?_ ?_
    · refine s_when (by walk_at "et") (fun _ H5 e5 => ?_) (fun _ H5 e5 => ?_)
      · have hs := ex_l e5 hs
        refine s_asg (by walk_at "ev") fun H6 e6 => ?_
        refine ⟨(rows.getD (Int.toNat 9) 0 % 61).toNat, ?_, by omega, e5.trans e6⟩
        rw [Int.toNat_of_nonneg (by omega)]
        rfl
      · refine ⟨(rows.getD (Int.toNat 9) 0 % 21).toNat, ?_, by omega, e5⟩
        rw [Int.toNat_of_nonneg (by omega)]
        rfl
    rintro _ H5 ⟨m, rfl, hm, e5⟩
    have hs := ex_l e5 hs
    have h2 := ex_g (e4.trans e5) h2
    have h3 := ex_g (e4.trans e5) h3
    have hwpos : (0 : Int) < ((ws.map V.str).length : Int) := by rw [List.length_map]; omega
    -- the debts
    refine q_forR1 (by walk_at "ea") (by omega) (fun i σ' H' => ∃ (ts : List Trn) (y5 y6 y7 : Option V), σ' = [some (.ref a), some (.ref p), some (.ref pp), some (.ref dp), some (.int (m : Int)), y5, y6, y7, none, none, none, none, none, none, none] ∧ Ex H2 H' ∧ H' dp = some (.lst (trefs ts)) ∧ TT3 H' ts ∧ ts.length = i ∧ (∀ t ∈ ts, t.2.1 ∈ ws ∧ t.2.2.1 ∈ ws)) ?_ ?_ ?_
    · intro H6 e6
      exact ⟨[], none, none, none, rfl, (e3.trans (e4.trans e5)).trans e6, ex_g e6 h3, TT3.nil, rfl, fun t ht => absurd ht List.not_mem_nil⟩
    · rintro i σ' H6 hi ⟨ts, y5, y6, y7, rfl, ex, hd6, ht6, htl, hmem⟩
      have hs := ex_l ex (show SqL K H2 p (rows.map V.int) by assumption)
      have hp6 := ex_g ex (show H2 pp = some (.lst (ws.map V.str)) by assumption)
      have hpl := sq_of (K := K) hp6
      have a1 := Int.emod_nonneg (rows.getD (10 + 3 * (i : Int)).toNat 0) (show (((ws.map V.str).length : Int)) ≠ 0 by omega)
      have a2 := Int.emod_lt_of_pos (rows.getD (10 + 3 * (i : Int)).toNat 0) hwpos
      have b1 := Int.emod_nonneg (rows.getD (11 + 3 * (i : Int)).toNat 0) (show (((ws.map V.str).length : Int)) ≠ 0 by omega)
      have b2 := Int.emod_lt_of_pos (rows.getD (11 + 3 * (i : Int)).toNat 0) hwpos
      refine q_asg (ev_op (ev_var rfl) (ev_op (by walk_at "ev") (ev_len (ev_var rfl) hpl) (rv_mod hwpos)) (rv_ixL hpl (at_strs a1 a2))) fun H7 e7 => ?_
      have hs := ex_l e7 hs
      have hpl := ex_l e7 hpl
      refine q_asg (ev_op (ev_var rfl) (ev_op (by walk_at "ev") (ev_len (ev_var rfl) hpl) (rv_mod hwpos)) (rv_ixL hpl (at_strs b1 b2))) fun H8 e8 => ?_
      have hs := ex_l e8 hs
      have m1 := getD_mem a1 a2
      have m2 := getD_mem b1 b2
      generalize ws.getD (rows.getD (10 + 3 * (i : Int)).toNat 0 % ((ws.map V.str).length : Int)).toNat Str.empty = gv at m1 ⊢
      generalize ws.getD (rows.getD (11 + 3 * (i : Int)).toNat 0 % ((ws.map V.str).length : Int)).toNat Str.empty = tk at m2 ⊢
      refine s_appU (ex_g (e7.trans e8) hd6) (by walk_at "ev") (eu_tup (by walk_at "ea") (by show 3 ≤ 100000; decide)) (by unfold trefs; rw [List.length_map]; omega) fun tp H9 htp e9 h9 => ?_
      have hd9 := ex_g ((e7.trans e8).trans e9) hd6
      have hne : tp ≠ dp := ne_of h9 hd9 (fun z => nomatch z)
      refine ⟨ts ++ [(tp, gv, tk, _)], some (.int (i : Nat)), some (.str gv), some (.str tk), rfl, ex_up (ex.trans ((e7.trans e8).trans e9)) hdp, ?_, TT3.add ((ht6.ex ((e7.trans e8).trans e9)).upd hd9) (by rw [upd_ne hne]; exact h9), by rw [List.length_append, htl]; rfl, fun t ht => ?_⟩
      · rw [upd_same]
        unfold trefs
        rw [List.map_append]
        rfl
      · rcases List.mem_append.mp ht with h | h
        · exact hmem t h
        · obtain rfl := List.mem_singleton.mp h
          exact ⟨m1, m2⟩
    · rintro σ' H6 ⟨ts, y5, y6, y7, rfl, ex, hd6, ht6, htl, hmem⟩
      rw [Int.toNat_natCast] at htl
      have hp6 := ex_g ex (show H2 pp = some (.lst (ws.map V.str)) by assumption)
      refine q_asgL (el_lst ea_nil (by decide)) fun du H7 hdu e7 h7 => ?_
      have hd7 := ex_g e7 hd6
      have ht7 := ht6.ex e7
      have hp7 := ex_g e7 hp6
      -- the due rows
      refine s_forL1 (Pc := fun sp H' => ∃ ys : List Str, H7 sp = none ∧ Ex H7 H' ∧ H' sp = some (.lst (ys.map V.str)) ∧ ys.Perm ws ∧ sortedS ys = true) ?_ ?_
      · intro Q1 hQ1
        refine (show EvA (tCons (tVar 2) tNil) _ H7 [.ref pp] from by walk_at "ea") H7 (Ex.refl _) _ fun H8 e8 => ?_
        exact ⟨pp, ws, rfl, sq_of (ex_g e8 hp7), by omega, fun ys sp hper hso hsp => hQ1 sp _ ⟨ys, fresh_back e8 hsp, e8.trans (Ex.new hsp), upd_same, hper, hso⟩⟩
      rintro sp H8 ⟨ys, hsp, e8, h8, hper, hso⟩
      have hsd : sp ≠ du := (ne_of_none h7 hsp).symm
      refine s_forL (g := gName 9) ev_c (sq_of h8) (fun i σ' H' => ∃ (qs : List Net) (y6 y7 y9 y10 y11 y12 : Option V), σ' = [some (.ref a), some (.ref p), some (.ref pp), some (.ref dp), some (.int (m : Int)), y5, y6, y7, some (.ref du), y9, y10, y11, y12, none, none] ∧ Ex H6 H' ∧ H' sp = some (.lst (ys.map V.str)) ∧ H' du = some (.lst (nrefs qs)) ∧ TN H' qs ∧
        qs.map (·.2) = ((ys.take i).filter (namedIn (debtsOf ts))).map fun nm => (nm, moved (debtsOf ts) nm)) ?_ ?_ ?_ ?_
      · intro H9 e9
        exact ⟨[], y6, y7, none, none, none, none, rfl, (e7.trans e8).trans e9, ex_g e9 h8, ex_g (e8.trans e9) h7, TN.nil, by rw [List.take_zero]; rfl⟩
      · rintro i σ' H' _ ⟨qs, y6, y7, y9, y10, y11, y12, rfl, _, h, _⟩
        exact sq_of h
      · rintro i x σ' H9 hx ⟨qs, y6, y7, y9, y10, y11, y12, rfl, ex9, hsp9, hdu9, ht9, hval⟩
        obtain ⟨nm, hnm, rfl⟩ : ∃ nm, ys[i]? = some nm ∧ x = .str nm := by
          rw [List.getElem?_map] at hx
          cases hc : ys[i]? with
          | none => rw [hc] at hx; cases hx
          | some c => rw [hc] at hx; exact ⟨c, rfl, (Option.some.inj hx).symm⟩
        have hi : i < 8 + 1 := by
          have := (List.getElem?_eq_some_iff.mp hnm).1
          have := hper.length_eq
          omega
        show tSeq _ _ _ _ _
        refine q_asg ev_c fun H10 e10 => ?_
        refine q_asg ev_c fun H11 e11 => ?_
        have e11' := e10.trans e11
        refine q_forL (g := gTup K 3 (gCons (gName 6) (gCons (gName 7) (gCons (gName 12) gNil)))) (by walk_at "ev") (sq_of (ex_g (ex9.trans e11') hd6)) (fun j σ' H' => ∃ (y6 y7 y12 : Option V), σ' = [some (.ref a), some (.ref p), some (.ref pp), some (.ref dp), some (.int (m : Int)), y5, y6, y7, some (.ref du), some (.str nm), some (.int (moved (debtsOf (ts.take j)) nm)), some (.bl (namedIn (debtsOf (ts.take j)) nm)), y12, none, none] ∧ Ex H9 H') ?_ ?_ ?_ ?_
        · intro H12 e12
          exact ⟨y6, y7, y12, by rw [List.take_zero]; rfl, e11'.trans e12⟩
        · rintro j σ' H' _ ⟨y6, y7, y12, rfl, ex'⟩
          exact sq_of (ex_g (ex9.trans ex') hd6)
        · rintro j x σ' H12 hx ⟨y6, y7, y12, rfl, ex12⟩
          obtain ⟨t, gt, rfl⟩ := trefs_at hx
          have ht := (ht6.ex (ex9.trans ex12)) t (List.mem_of_getElem? gt)
          refine tg_three (st_of ht) tg_name tg_name tg_name H12 (Ex.refl _) _ ?_
          have tk : namedIn (debtsOf (ts.take (j + 1))) nm = (namedIn (debtsOf (ts.take j)) nm || (decide (t.2.1 = nm) || decide (t.2.2.1 = nm))) := by
            rw [List.take_succ, gt]
            unfold debtsOf
            rw [List.map_append]
            exact named_snoc _ _ nm
          have tm : moved (debtsOf (ts.take (j + 1))) nm = moved (debtsOf (ts.take j)) nm + (if t.2.1 = nm then -t.2.2.2 else 0) + (if t.2.2.1 = nm then t.2.2.2 else 0) := by
            rw [List.take_succ, gt]
            unfold debtsOf
            rw [List.map_append]
            exact moved_snoc _ _ nm
          generalize namedIn (debtsOf (ts.take j)) nm = nb at tk ⊢
          generalize moved (debtsOf (ts.take j)) nm = mv at tm ⊢
          rw [tk, tm]
          refine q_cut (M := fun σ' H' => σ' = [some (.ref a), some (.ref p), some (.ref pp), some (.ref dp), some (.int (m : Int)), y5, some (.str t.2.1), some (.str t.2.2.1), some (.ref du), some (.str nm), some (.int (mv + (if t.2.1 = nm then -t.2.2.2 else 0))), some (.bl (nb || decide (t.2.1 = nm))), some (.int t.2.2.2), none, none] ∧ Ex H9 H') ?_ ?_
          · refine s_when (et_is (by walk_at "et") str_eq) (fun hb H13 e13 => ?_) (fun hb H13 e13 => ?_)
            · have hb := of_decide_eq_true hb
              refine q_asg (by walk_at "ev") fun H14 e14 => ?_
              refine s_asg ev_c fun H15 e15 => ?_
              refine ⟨?_, ex12.trans ((e13.trans e14).trans e15)⟩
              rw [if_pos hb, decide_eq_true hb, Bool.or_true]
              rfl
            · have hb := of_decide_eq_false hb
              refine ⟨?_, ex12.trans e13⟩
              rw [if_neg hb, decide_eq_false hb, Bool.or_false, Int.add_zero]
              rfl
          rintro _ H13 ⟨rfl, ex13⟩
          refine s_when (et_is (by walk_at "et") str_eq) (fun hb H14 e14 => ?_) (fun hb H14 e14 => ?_)
          · have hb := of_decide_eq_true hb
            refine q_asg (by walk_at "ev") fun H15 e15 => ?_
            refine s_asg ev_c fun H16 e16 => ?_
            refine ⟨some (.str t.2.1), some (.str t.2.2.1), some (.int t.2.2.2), ?_, ex13.trans ((e14.trans e15).trans e16)⟩
            rw [if_pos hb, decide_eq_true hb, Bool.or_true, Bool.or_true]
            rfl
          · have hb := of_decide_eq_false hb
            refine ⟨some (.str t.2.1), some (.str t.2.2.1), some (.int t.2.2.2), ?_, ex13.trans e14⟩
            rw [if_neg hb, decide_eq_false hb, Bool.or_false, Int.add_zero]
        · rintro σ' H12 ⟨y6, y7, y12, rfl, ex12⟩
          have hfull : ts.take (trefs ts).length = ts := by
            unfold trefs
            rw [List.length_map, List.take_length]
          rw [hfull]
          refine s_when (b := namedIn (debtsOf ts) nm) (et_B (ev_var rfl)) (fun hb H13 e13 => ?_) (fun hb H13 e13 => ?_)
          · have hdu13 := ex_g (ex12.trans e13) hdu9
            have hql : qs.length ≤ i := by
              have h := congrArg List.length hval
              rw [List.length_map, List.length_map] at h
              have := List.length_filter_le (namedIn (debtsOf ts)) (ys.take i)
              rw [List.length_take] at this
              omega
            refine s_appU hdu13 (by walk_at "ev") (eu_tup (by walk_at "ea") (by show 2 ≤ 100000; decide)) (by rw [nrefs_len]; omega) fun tp H14 htp e14 h14 => ?_
            have hdu14 := ex_g e14 hdu13
            have hne : tp ≠ du := ne_of h14 hdu14 (fun z => nomatch z)
            refine ⟨qs ++ [(tp, nm, moved (debtsOf ts) nm)], _, _, _, _, _, _, rfl, ex_up (ex9.trans ((ex12.trans e13).trans e14)) hdu, ?_, ?_, ?_, ?_⟩
            · rw [upd_ne hsd]
              exact ex_g ((ex12.trans e13).trans e14) hsp9
            · rw [upd_same]
              unfold nrefs
              rw [List.map_append]
              rfl
            · exact TN.add ((ht9.ex ((ex12.trans e13).trans e14)).upd hdu14) (by rw [upd_ne hne]; exact h14)
            · rw [List.take_succ, hnm, List.filter_append, List.map_append, List.map_append, hval]
              show _ ++ [(nm, moved (debtsOf ts) nm)] = _ ++ List.map _ (List.filter _ [nm])
              rw [List.filter_cons, if_pos hb]
              rfl
          · refine ⟨qs, _, _, _, _, _, _, rfl, ex9.trans (ex12.trans e13), ex_g (ex12.trans e13) hsp9, ex_g (ex12.trans e13) hdu9, ht9.ex (ex12.trans e13), ?_⟩
            rw [List.take_succ, hnm, List.filter_append, List.map_append, hval]
            show _ = _ ++ List.map _ (List.filter _ [nm])
            rw [List.filter_cons, if_neg (by rw [hb]; decide)]
            show _ = _ ++ []
            rw [List.append_nil]
      · rintro σ' H9 ⟨qs, y6, y7, y9, y10, y11, y12, rfl, ex9, hsp9, hdu9, ht9, hval⟩
        rw [List.length_map, List.take_length] at hval
        dsimp only
        have hd9 := ex_g ex9 hd6
        have ht9' := ht6.ex ex9
        have hyn : ys.Nodup := hper.nodup_iff.mpr hwn
        have hst : (ys.filter (namedIn (debtsOf ts))).Pairwise LtS := List.Pairwise.filter _ (sorted_strict hso hyn)
        have hin : ∀ nm, namedIn (debtsOf ts) nm = true → nm ∈ ys := fun nm hnm => by
          unfold namedIn debtsOf at hnm
          rw [List.any_eq_true] at hnm
          obtain ⟨d', hd1, hd2⟩ := hnm
          obtain ⟨t, ht, rfl⟩ := List.mem_map.mp hd1
          simp only [Bool.or_eq_true, decide_eq_true_eq] at hd2
          rcases hd2 with e | e
          · rw [← e]
            exact hper.mem_iff.mpr (hmem t ht).1
          · rw [← e]
            exact hper.mem_iff.mpr (hmem t ht).2
        have key : ∀ qs1 : List Net, (nmsOf qs1).Pairwise LtS → (∀ nm, nm ∈ nmsOf qs1 ↔ namedIn (debtsOf ts) nm = true) → (∀ q ∈ qs1, q.2.2 = moved (debtsOf ts) q.2.1) → netD qs1 = netD qs := fun qs1 h1 h2 h3 => netD_eq (by
          rw [rows_of h3, hval, strict_unique h1 hst fun x => ⟨fun hx => List.mem_filter.mpr ⟨hin x ((h2 x).mp hx), (h2 x).mp hx⟩, fun hx => (h2 x).mpr (List.mem_filter.mp hx).2⟩])
        refine q_asgL (el_list (by walk_at "ev") (sq_of hd9)) fun hd H10 hhd e10 h10 => ?_
        have hd10 := ex_g e10 hd9
        have ht10 := ht9'.ex e10
        have hdu10 := ex_g e10 hdu9
        have hq10 := ht9.ex e10
        refine q_callQ (by walk_at "ea") fun H11 e11 => ⟨hd, ts, ws, rfl, sq_of (ex_g e11 h10), ht10.ex e11, by omega, by omega, hmem, fun qs1 H12 tp htp e12 h12 hT12 hso1 hm1 hv1 hl1 => ?_⟩
        have ex12 := e11.trans e12
        have hd12 := ex_g ex12 hd10
        have hh12 := ex_g ex12 h10
        have ht12 := ht10.ex ex12
        have hdu12 := ex_g ex12 hdu10
        have hq12 := hq10.ex ex12
        have hk1 := key qs1 hso1 hm1 hv1
        refine q_when (b := false) ?_ (fun h => by cases h) fun _ H13 e13 => ?_
        · refine et_or (a := false) (b := !true) (et_test (ev_op (ev_var rfl) (ev_var rfl) (rv_neD (d := trnD (ts.map (·.2))) (dp_trn (sq_of hh12) ht12 rfl) (dp_trn (sq_of hd12) ht12 rfl) (shaped_trn _ fun t ht => ?_)))) fun _ => et_not (et_B (ev_call (by walk_at "ea") (spV_same (d := netD qs1) (pl_net (by omega)) (dp_net (sq_of h12) hT12) (hk1 ▸ dp_net (sq_of hdu12) hq12))))
          obtain ⟨t', ht', rfl⟩ := List.mem_map.mp ht
          exact ⟨(hok _ (hmem t' ht').1).ok, (hok _ (hmem t' ht').2).ok⟩
        have h13 := ex_g e13 h12
        have hh13 := ex_g e13 hh12
        have ht13 := ht12.ex e13
        have hdu13 := ex_g e13 hdu12
        have hq13 := hq12.ex e13
        have n1 : hd ≠ tp := ne_of_none (ex_g e11 h10) htp
        have n2 : du ≠ tp := ne_of_none (ex_g e11 hdu10) htp
        refine q_appU h13 (by walk_at "ev") (eu_tup (by walk_at "ea") (by show 2 ≤ 100000; decide)) (by rw [nrefs_len]; omega) fun ap H14 hap e14 h14 => ?_
        have h15 := ex_g e14 h13
        have hh15 : ∀ xs, (upd H14 tp (.lst xs)) hd = some (.lst (trefs ts)) := fun xs => by rw [upd_ne n1]; exact ex_g e14 hh13
        have hdu15 : ∀ xs, (upd H14 tp (.lst xs)) du = some (.lst (nrefs qs)) := fun xs => by rw [upd_ne n2]; exact ex_g e14 hdu13
        have ht15 : ∀ xs, TT3 (upd H14 tp (.lst xs)) ts := fun xs => (ht13.ex e14).upd h15
        have hq15 : ∀ xs, TN (upd H14 tp (.lst xs)) qs := fun xs => (hq13.ex e14).upd h15
        refine s_ret (v := .bl true) ?_ fun H16 e16 => q H16
        intro H16 e16 Q1 q1
        refine ⟨.ref hd, rfl, ?_⟩
        refine ⟨hd, ts, ws, rfl, sq_of (ex_g e16 (hh15 _)), (ht15 _).ex e16, by omega, by omega, hmem, fun qs2 H17 tp2 htp2 e17 h17 hT17 hso2 hm2 hv2 hl2 => ?_⟩
        refine ⟨.ref du, rfl, ?_⟩
        have hk2 := key qs2 hso2 hm2 hv2
        exact ⟨.ref tp2, .ref du, netD qs2, rfl, pl_net (by omega), dp_net (sq_of h17) hT17, hk2 ▸ dp_net (sq_of (ex_g (e16.trans e17) (hdu15 _))) ((hq15 _).ex (e16.trans e17)), fun H18 e18 => q1 H18 (e17.trans e18)⟩
end

end Su
namespace Su
def top_mk {K : PySem.W.Frag} {h : Heap} {mg : Str → Option Value} (X : K.In h) (G : h.Ns mainGlobals mg)
    {od0 an0 : Option Addr} {sl0 : Array (Option Value)} {oc0 kV0 dc0 pm0 cd0 ct0 : Value} {f0 : Addr}
    (a0 : PySem.W.nsIn K mainGlobals "net_rows" = some (some (.ref f0))) (l0 : K.lookup f0 = some ⟨oc0, od0, .func (PySem.W.fnOf "net_rows" "net_rows" (defArgs s_net_rows) (defBody s_net_rows) (defScope s_net_rows) .none kV0 dc0 pm0 an0 cd0 ct0), sl0⟩) (c0 : PySem.W.codeIn K cd0 "net_rows" = true) (k0 : PySem.W.keepIn K (.ref f0) = true)
    {od1 an1 : Option Addr} {sl1 : Array (Option Value)} {oc1 kV1 dc1 pm1 cd1 ct1 : Value} {f1 : Addr}
    (a1 : PySem.W.nsIn K mainGlobals "_law_draws" = some (some (.ref f1))) (l1 : K.lookup f1 = some ⟨oc1, od1, .func (PySem.W.fnOf "_law_draws" "_law_draws" (defArgs s__law_draws) (defBody s__law_draws) (defScope s__law_draws) .none kV1 dc1 pm1 an1 cd1 ct1), sl1⟩) (c1 : PySem.W.codeIn K cd1 "_law_draws" = true) (k1 : PySem.W.keepIn K (.ref f1) = true)
    {od2 an2 : Option Addr} {sl2 : Array (Option Value)} {oc2 kV2 dc2 pm2 cd2 ct2 : Value} {f2 : Addr}
    (a2 : PySem.W.nsIn K mainGlobals "_law_same" = some (some (.ref f2))) (l2 : K.lookup f2 = some ⟨oc2, od2, .func (PySem.W.fnOf "_law_same" "_law_same" (defArgs s__law_same) (defBody s__law_same) (defScope s__law_same) .none kV2 dc2 pm2 an2 cd2 ct2), sl2⟩) (c2 : PySem.W.codeIn K cd2 "_law_same" = true) (k2 : PySem.W.keepIn K (.ref f2) = true)
    {od3 an3 : Option Addr} {sl3 : Array (Option Value)} {oc3 kV3 dc3 pm3 cd3 ct3 : Value} {f3 : Addr}
    (a3 : PySem.W.nsIn K mainGlobals "_law_names" = some (some (.ref f3))) (l3 : K.lookup f3 = some ⟨oc3, od3, .func (PySem.W.fnOf "_law_names" "_law_names" (defArgs s__law_names) (defBody s__law_names) (defScope s__law_names) .none kV3 dc3 pm3 an3 cd3 ct3), sl3⟩) (c3 : PySem.W.codeIn K cd3 "_law_names" = true) (k3 : PySem.W.keepIn K (.ref f3) = true)
    {od4 an4 : Option Addr} {sl4 : Array (Option Value)} {oc4 kV4 dc4 pm4 cd4 ct4 : Value} {f4 : Addr}
    (a4 : PySem.W.nsIn K mainGlobals "law" = some (some (.ref f4))) (l4 : K.lookup f4 = some ⟨oc4, od4, .func (PySem.W.fnOf "law" "law" (defArgs s_law) (defBody s_law) (defScope s_law) .none kV4 dc4 pm4 an4 cd4 ct4), sl4⟩) (c4 : PySem.W.codeIn K cd4 "law" = true) (k4 : PySem.W.keepIn K (.ref f4) = true)
    (z0 : PySem.W.nsIn K mainGlobals "abs" = some none)
    (z1 : PySem.W.nsIn K mainGlobals "all" = some none)
    (z2 : PySem.W.nsIn K mainGlobals "bool" = some none)
    (z3 : PySem.W.nsIn K mainGlobals "int" = some none)
    (z4 : PySem.W.nsIn K mainGlobals "isinstance" = some none)
    (z5 : PySem.W.nsIn K mainGlobals "len" = some none)
    (z6 : PySem.W.nsIn K mainGlobals "list" = some none)
    (z7 : PySem.W.nsIn K mainGlobals "range" = some none)
    (z8 : PySem.W.nsIn K mainGlobals "sorted" = some none)
    (z9 : PySem.W.nsIn K mainGlobals "str" = some none)
    (z10 : PySem.W.nsIn K mainGlobals "tuple" = some none)
    (z11 : PySem.W.nsIn K mainGlobals "zip" = some none) : Top K mg where
      f_net_rows := f0
      fd_net_rows := _
      F_net_rows := fun_mk (st := s_net_rows) l0 c0 k0
      b_net_rows := (fun_mk (st := s_net_rows) l0 c0 k0).binds (ps := ["debts"]) (fun _ _ _ _ _ _ us hl => match us, hl with | [_], _ => rfl)
      m_net_rows := PySem.W.mg_of X G a0
      f__law_draws := f1
      fd__law_draws := _
      F__law_draws := fun_mk (st := s__law_draws) l1 c1 k1
      b__law_draws := (fun_mk (st := s__law_draws) l1 c1 k1).binds (ps := ["_law_script", "_law_many"]) (fun _ _ _ _ _ _ us hl => match us, hl with | [_, _], _ => rfl)
      m__law_draws := PySem.W.mg_of X G a1
      f__law_same := f2
      fd__law_same := _
      F__law_same := fun_mk (st := s__law_same) l2 c2 k2
      b__law_same := (fun_mk (st := s__law_same) l2 c2 k2).binds (ps := ["_law_told", "_law_due"]) (fun _ _ _ _ _ _ us hl => match us, hl with | [_, _], _ => rfl)
      m__law_same := PySem.W.mg_of X G a2
      f__law_names := f3
      fd__law_names := _
      F__law_names := fun_mk (st := s__law_names) l3 c3 k3
      b__law_names := (fun_mk (st := s__law_names) l3 c3 k3).binds (ps := ["_law_some", "_law_many"]) (fun _ _ _ _ _ _ us hl => match us, hl with | [_, _], _ => rfl)
      m__law_names := PySem.W.mg_of X G a3
      f_law := f4
      fd_law := _
      F_law := fun_mk (st := s_law) l4 c4 k4
      b_law := (fun_mk (st := s_law) l4 c4 k4).binds (ps := ["_law_script"]) (fun _ _ _ _ _ _ us hl => match us, hl with | [_], _ => rfl)
      m_law := PySem.W.mg_of X G a4
      m_abs := PySem.W.mg_none_of X G z0
      m_all := PySem.W.mg_none_of X G z1
      m_bool := PySem.W.mg_none_of X G z2
      m_int := PySem.W.mg_none_of X G z3
      m_isinstance := PySem.W.mg_none_of X G z4
      m_len := PySem.W.mg_none_of X G z5
      m_list := PySem.W.mg_none_of X G z6
      m_range := PySem.W.mg_none_of X G z7
      m_sorted := PySem.W.mg_none_of X G z8
      m_str := PySem.W.mg_none_of X G z9
      m_tuple := PySem.W.mg_none_of X G z10
      m_zip := PySem.W.mg_none_of X G z11
theorem all_mk {l : PySem.W.OpenLaw} {w : World} {K : PySem.W.Frag} {h : Heap} {mg : Str → Option Value} {fa : Addr} (X : K.In h) (G : h.Ns mainGlobals mg) (hfa : mg "law" = some (.ref fa))
    {od0 an0 : Option Addr} {sl0 : Array (Option Value)} {oc0 kV0 dc0 pm0 cd0 ct0 : Value} {f0 : Addr}
    (a0 : PySem.W.nsIn K mainGlobals "net_rows" = some (some (.ref f0))) (l0 : K.lookup f0 = some ⟨oc0, od0, .func (PySem.W.fnOf "net_rows" "net_rows" (defArgs s_net_rows) (defBody s_net_rows) (defScope s_net_rows) .none kV0 dc0 pm0 an0 cd0 ct0), sl0⟩) (c0 : PySem.W.codeIn K cd0 "net_rows" = true) (k0 : PySem.W.keepIn K (.ref f0) = true)
    {od1 an1 : Option Addr} {sl1 : Array (Option Value)} {oc1 kV1 dc1 pm1 cd1 ct1 : Value} {f1 : Addr}
    (a1 : PySem.W.nsIn K mainGlobals "_law_draws" = some (some (.ref f1))) (l1 : K.lookup f1 = some ⟨oc1, od1, .func (PySem.W.fnOf "_law_draws" "_law_draws" (defArgs s__law_draws) (defBody s__law_draws) (defScope s__law_draws) .none kV1 dc1 pm1 an1 cd1 ct1), sl1⟩) (c1 : PySem.W.codeIn K cd1 "_law_draws" = true) (k1 : PySem.W.keepIn K (.ref f1) = true)
    {od2 an2 : Option Addr} {sl2 : Array (Option Value)} {oc2 kV2 dc2 pm2 cd2 ct2 : Value} {f2 : Addr}
    (a2 : PySem.W.nsIn K mainGlobals "_law_same" = some (some (.ref f2))) (l2 : K.lookup f2 = some ⟨oc2, od2, .func (PySem.W.fnOf "_law_same" "_law_same" (defArgs s__law_same) (defBody s__law_same) (defScope s__law_same) .none kV2 dc2 pm2 an2 cd2 ct2), sl2⟩) (c2 : PySem.W.codeIn K cd2 "_law_same" = true) (k2 : PySem.W.keepIn K (.ref f2) = true)
    {od3 an3 : Option Addr} {sl3 : Array (Option Value)} {oc3 kV3 dc3 pm3 cd3 ct3 : Value} {f3 : Addr}
    (a3 : PySem.W.nsIn K mainGlobals "_law_names" = some (some (.ref f3))) (l3 : K.lookup f3 = some ⟨oc3, od3, .func (PySem.W.fnOf "_law_names" "_law_names" (defArgs s__law_names) (defBody s__law_names) (defScope s__law_names) .none kV3 dc3 pm3 an3 cd3 ct3), sl3⟩) (c3 : PySem.W.codeIn K cd3 "_law_names" = true) (k3 : PySem.W.keepIn K (.ref f3) = true)
    {od4 an4 : Option Addr} {sl4 : Array (Option Value)} {oc4 kV4 dc4 pm4 cd4 ct4 : Value} {f4 : Addr}
    (a4 : PySem.W.nsIn K mainGlobals "law" = some (some (.ref f4))) (l4 : K.lookup f4 = some ⟨oc4, od4, .func (PySem.W.fnOf "law" "law" (defArgs s_law) (defBody s_law) (defScope s_law) .none kV4 dc4 pm4 an4 cd4 ct4), sl4⟩) (c4 : PySem.W.codeIn K cd4 "law" = true) (k4 : PySem.W.keepIn K (.ref f4) = true)
    (z0 : PySem.W.nsIn K mainGlobals "abs" = some none)
    (z1 : PySem.W.nsIn K mainGlobals "all" = some none)
    (z2 : PySem.W.nsIn K mainGlobals "bool" = some none)
    (z3 : PySem.W.nsIn K mainGlobals "int" = some none)
    (z4 : PySem.W.nsIn K mainGlobals "isinstance" = some none)
    (z5 : PySem.W.nsIn K mainGlobals "len" = some none)
    (z6 : PySem.W.nsIn K mainGlobals "list" = some none)
    (z7 : PySem.W.nsIn K mainGlobals "range" = some none)
    (z8 : PySem.W.nsIn K mainGlobals "sorted" = some none)
    (z9 : PySem.W.nsIn K mainGlobals "str" = some none)
    (z10 : PySem.W.nsIn K mainGlobals "tuple" = some none)
    (z11 : PySem.W.nsIn K mainGlobals "zip" = some none) :
    ∃ fd : FuncData, (∀ (s : Shared) (v : Value), BindsTo s fd ⟨[v], []⟩ [("_law_script", v)]) ∧ ∀ base : Heap, K.In base → base.Ns mainGlobals mg → FnOk l.prog w K mg base CX0 4 fa fd ["_law_script"] (spLaw K) := by
  have e := hfa.symm.trans (PySem.W.mg_of X G a4)
  cases e
  exact ⟨PySem.W.fnOf "law" "law" (defArgs s_law) (defBody s_law) (defScope s_law) .none kV4 dc4 pm4 an4 cd4 ct4, fun s v => .of_eq rfl, fun base _ _ => ok_law (fun_mk (st := s_law) l4 c4 k4) (top_mk X G a0 l0 c0 k0 a1 l1 c1 k1 a2 l2 c2 k2 a3 l3 c3 k3 a4 l4 c4 k4 z0 z1 z2 z3 z4 z5 z6 z7 z8 z9 z10 z11)⟩
end Su
open PySem PySem.W PyProof.Rows
set_option maxHeartbeats 0 in
theorem PySem.Challenge.cw_susu_k14_nets_of_debts_holds : PySem.Challenge.rw_susu_k14_nets_of_debts.Holds := by
  w_on; o_law; k_head; (case hw => w_witness2)
  k_fill
  refine L2.walk_of (l := PySem.Challenge.rw_susu_k14_nets_of_debts) (n := 63) (k := 4) (x := "_law_script") (CX := fun _ => L2.CX0) (sp := fun w => Su.spLaw _) rfl (by decide) rfl ⟨rfl, by decide, by decide⟩ (fun w h Y => PySem.W.kIn_of Y) ?F (fun _ _ a ns hl _ hS => ⟨a, ns, rfl, hS, hl, fun _ => rfl⟩) (fun _ _ _ _ _ h => h)
  case F =>
    intro w mg fa h KX G hmg
    refine' Su.all_mk KX G hmg ?a0 ?l0 ?c0 ?k0 ?a1 ?l1 ?c1 ?k1 ?a2 ?l2 ?c2 ?k2 ?a3 ?l3 ?c3 ?k3 ?a4 ?l4 ?c4 ?k4 ?z0 ?z1 ?z2 ?z3 ?z4 ?z5 ?z6 ?z7 ?z8 ?z9 ?z10 ?z11
    (case a0 => k_is); (case l0 => k_is); (case c0 => k_is); (case k0 => k_is); (case a1 => k_is); (case l1 => k_is); (case c1 => k_is); (case k1 => k_is); (case a2 => k_is); (case l2 => k_is); (case c2 => k_is); (case k2 => k_is); (case a3 => k_is); (case l3 => k_is); (case c3 => k_is); (case k3 => k_is); (case a4 => k_is); (case l4 => k_is); (case c4 => k_is); (case k4 => k_is); (case z0 => k_is); (case z1 => k_is); (case z2 => k_is); (case z3 => k_is); (case z4 => k_is); (case z5 => k_is); (case z6 => k_is); (case z7 => k_is); (case z8 => k_is); (case z9 => k_is); (case z10 => k_is); (case z11 => k_is)

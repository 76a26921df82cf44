import PyProof.Rows.All
import Wide.All
import OpenK.AllK
import Wide.FinOn
import HandS.ForList
import HandS.Evl
import HandS.IsInst
import HandS.Wide
import PySem.Challenge.RW_susu_k19_worth_of_early_draws
set_option Elab.async false
set_option linter.all false
set_option maxRecDepth 100000

namespace Su
open PySem PySem.Spec PyProof.Rows L2 Evl
/-! ### small rules over HandS.Evl -/
theorem CMul.l {i j : Int} (h1 : -(2 ^ 64) < i) (h2 : i < 2 ^ 64) : CMul i j := .inl ⟨h1, h2⟩
theorem CMul.r {i j : Int} (h1 : -(2 ^ 64) < j) (h2 : j < 2 ^ 64) : CMul i j := .inr ⟨h1, h2⟩
theorem rv_mod {H : Hp} {i j : Int} (h : 0 < j) : RV (rI (fun _ j => 0 < j) fun i j => .int (i % j)) (.int i) (.int j) H (.int (i % j)) := rv_I h
theorem rv_div {H : Hp} {i j : Int} (h : 0 < j) (h2 : j < 1073741824) : RV (rI CDiv fun i j => .int (i / j)) (.int i) (.int j) H (.int (i / j)) := rv_I ⟨h, h2⟩
theorem rv_mul {H : Hp} {i j : Int} (h : CMul i j) : RV (rI CMul fun i j => .int (i * j)) (.int i) (.int j) H (.int (i * j)) := rv_I h
theorem rv_pow {H : Hp} {i j : Int} (h : CPow i j) : RV (rI CPow fun i j => .int (i ^ j.toNat)) (.int i) (.int j) H (.int (i ^ j.toNat)) := rv_I h
theorem rv_p18 {H : Hp} : RV (rI CPow fun i j => .int (i ^ j.toNat)) (.int 10) (.int 18) H (.int (10 ^ 18)) := rv_I (C := CPow) (g := fun i j => .int (i ^ j.toNat)) ⟨by decide, by decide, by decide⟩
theorem rv_p12 {H : Hp} : RV (rI CPow fun i j => .int (i ^ j.toNat)) (.int 10) (.int 12) H (.int (10 ^ 12)) := rv_I (C := CPow) (g := fun i j => .int (i ^ j.toNat)) ⟨by decide, by decide, by decide⟩
theorem rv_p20 {H : Hp} : RV (rI CPow fun i j => .int (i ^ j.toNat)) (.int 10) (.int 20) H (.int (10 ^ 20)) := rv_I (C := CPow) (g := fun i j => .int (i ^ j.toNat)) ⟨by decide, by decide, by decide⟩
theorem rv_divW {H : Hp} {i j : Int} (h : CDivW i j) : RV (rI CDivW fun i j => .int (i / j)) (.int i) (.int j) H (.int (i / j)) := rv_I h
theorem rv_mulW {H : Hp} {i j : Int} (h : CMulW i j) : RV (rI CMulW fun i j => .int (i * j)) (.int i) (.int j) H (.int (i * j)) := rv_I h
theorem rc_abs {H : Hp} {i : Int} : RC (fun xs H Q => ∃ i, xs = [V.int i] ∧ Q (.int (if i < 0 then -i else i)) H) [.int i] H (.int (if i < 0 then -i else i)) := fun H1 _ _ q => ⟨i, rfl, q H1 (Ex.refl H1)⟩
theorem rc_max {H : Hp} {i j : Int} : RC (fun xs H Q => ∃ i j, xs = [V.int i, .int j] ∧ Q (.int (if j > i then j else i)) H) [.int i, .int j] H (.int (if j > i then j else i)) := fun H1 _ _ q => ⟨i, j, rfl, q H1 (Ex.refl H1)⟩
theorem rc_min {H : Hp} {i j : Int} : RC (fun xs H Q => ∃ i j, xs = [V.int i, .int j] ∧ Q (.int (if j < i then j else i)) H) [.int i, .int j] H (.int (if j < i then j else i)) := fun H1 _ _ q => ⟨i, j, rfl, q H1 (Ex.refl H1)⟩
theorem rc_len {K : PySem.W.Frag} {H : Hp} {p : Addr} {ys : List V} (h : SqL K H p ys ∨ SqT K H p ys) : RC (fun xs H Q => ∃ p ys, xs = [V.ref p] ∧ (SqL K H p ys ∨ SqT K H p ys) ∧ Q (.int ys.length) H) [.ref p] H (.int ys.length) :=
  fun H1 e _ q => ⟨p, ys, rfl, h.elim (fun h => .inl (ex_l e h)) (fun h => .inr (ex_t e h)), q H1 (Ex.refl H1)⟩
theorem rc_isi_int {K : PySem.W.Frag} {H : Hp} {i : Int} {n : String} {b : Bool} (h : kitB "int" n = some b) : RC (rIsi K) [.int i, .ty n] H (.bl b) :=
  fun H1 _ _ q => ⟨.int i, .ty n, .type "int", .type n, b, rfl, .ty n, .base (.int i), kit_ty h, q H1 (Ex.refl H1)⟩
theorem ex_g {H H' : Hp} {a : Addr} {o : HO} (e : Ex H H') (h : H a = some o) : H' a = some o := e a o h
theorem at_rows {rows : List Int} {z : Int} (h0 : 0 ≤ z) (h : z < rows.length) : atI (rows.map V.int) z = some (.int (rows.getD z.toNat 0)) := by
  have hz : z = ((z.toNat : Nat) : Int) := by omega
  have hl : z.toNat < rows.length := by omega
  refine at_of hz ?_
  rw [List.getElem?_map, List.getElem?_eq_getElem hl, List.getD_eq_getElem?_getD, List.getElem?_eq_getElem hl]
  rfl
theorem at4 {a b c d z : Int} (h0 : 0 ≤ z) (h : z < 4) : atI [V.int a, .int b, .int c, .int d] z = some (.int (if z = 0 then a else if z = 1 then b else if z = 2 then c else d)) := by
  have h4 : z = 0 ∨ z = 1 ∨ z = 2 ∨ z = 3 := by omega
  rcases h4 with rfl | rfl | rfl | rfl <;> rfl
theorem wm {i j : Int} (h1 : i.natAbs < 2 ^ 240) (h2 : j.natAbs < 2 ^ 240) : CMulW i j := wide_mul h1 h2 (by decide) (by decide) (by decide)
theorem wd {i j : Int} (h : 0 < j) (h2 : j.natAbs < 2 ^ 240) : CDivW i j := wide_div h h2 (by decide) (by decide)
theorem n400 {i : Int} {n : Int} (h1 : -n ≤ i) (h2 : i ≤ n) (h : n.toNat < 2 ^ 240) : i.natAbs < 2 ^ 240 := by omega
theorem n400' {i : Int} (h1 : -(10 ^ 70) ≤ i) (h2 : i ≤ 10 ^ 70) : i.natAbs < 2 ^ 240 := n400 h1 h2 (by decide)
theorem decT {p : Prop} [Decidable p] (h : p) {b : Bool} (e : decide p = b) : b = true := by rw [← e]; exact decide_eq_true h
abbrev vErr : List Value := [.type "ValueError", .type "Exception", .type "BaseException", .type "object"]
theorem ex_up {H : Hp} {p : Addr} {o' : HO} {H0 : Hp} (e : Ex H0 H) (hp : H0 p = none) : Ex H0 (upd H p o') := Ex.mut e hp
theorem seq_ne {K : PySem.W.Frag} {H H' : Hp} {a : Addr} {xs : List V} (e : Ex H H') (h : SqL K H a xs) : SqL K H' a xs := ex_l e h
/-- a def's call that hands back a new list of which something is known -/
def SpN (sp : Sp) (vs : List V) (H : Hp) (P : List V → Prop) : Prop := ∀ H1, Ex H H1 → ∀ Q : VK, (∀ xs p H2, P xs → H1 p = none → Ex H1 H2 → H2 p = some (.lst xs) → Q (.ref p) H2) → ∀ E : XK, sp vs H1 Q E
theorem q_callN {sp : Sp} {dvs vs : List V} {E : XK} {ta : TA} {σ : L2.St} {H : Hp} {i : Nat} {D : Ends} {tz : TS} {P : List V → Prop} (h : EvA ta σ H vs) (hs : SpN sp (vs ++ dvs) H P)
    (k : ∀ xs p H1, P xs → H p = none → Ex H H1 → H1 p = some (.lst xs) → tz D (σ.set i (some (.ref p))) H1) : tSeq (tAsg (tCall sp dvs E ta) (gName i)) tz D σ H :=
  h H (Ex.refl H) _ fun H1 e1 => hs H1 e1 _ (fun xs p H2 hP hp e2 h2 => k xs p H2 hP (fresh_back e1 hp) (e1.trans e2) h2) E
theorem s_callN {sp : Sp} {dvs vs : List V} {E : XK} {ta : TA} {σ : L2.St} {H : Hp} {i : Nat} {D : Ends} {P : List V → Prop} (h : EvA ta σ H vs) (hs : SpN sp (vs ++ dvs) H P)
    (k : ∀ xs p H1, P xs → H p = none → Ex H H1 → H1 p = some (.lst xs) → D.nx (σ.set i (some (.ref p))) H1) : tAsg (tCall sp dvs E ta) (gName i) D σ H :=
  h H (Ex.refl H) _ fun H1 e1 => hs H1 e1 _ (fun xs p H2 hP hp e2 h2 => k xs p H2 hP (fresh_back e1 hp) (e1.trans e2) h2) E
/-- .. whose first argument is a new list -/
theorem s_callN1 {sp : Sp} {dvs vs xs0 : List V} {E : XK} {te : TE} {tr : TA} {σ : L2.St} {H : Hp} {i : Nat} {D : Ends} {P : List V → Prop} (h1 : EvL te σ H xs0) (h2 : EvA tr σ H vs) (hs : ∀ p0 H1, Ex H H1 → H1 p0 = some (.lst xs0) → SpN sp (.ref p0 :: vs ++ dvs) H1 P)
    (k : ∀ xs p H1, P xs → H p = none → Ex H H1 → H1 p = some (.lst xs) → D.nx (σ.set i (some (.ref p))) H1) : tAsg (tCall sp dvs E (tCons te tr)) (gName i) D σ H :=
  h1 H (Ex.refl H) _ fun p0 H1 _ e1 hp0 => h2 H1 e1 _ fun H2 e2 => hs p0 H2 (e1.trans e2) (e2 _ _ hp0) H2 (Ex.refl H2) _ (fun xs p H3 hP hp e3 h3 => k xs p H3 hP (fresh_back (e1.trans e2) hp) ((e1.trans e2).trans e3) h3) E
theorem ev_callL {sp : Sp} {dvs vs xs0 : List V} {E : XK} {te : TE} {tr : TA} {σ : L2.St} {H : Hp} {z : V} (h1 : EvL te σ H xs0) (h2 : EvA tr σ H vs) (hs : ∀ p0 H1, Ex H H1 → H1 p0 = some (.lst xs0) → SpV sp (.ref p0 :: vs ++ dvs) H1 z) : Ev (tCall sp dvs E (tCons te tr)) σ H z := fun H0 e0 Q q =>
  h1 H0 e0 _ fun p0 H1 _ e1 hp0 => h2 H1 (e0.trans e1) _ fun H2 e2 => hs p0 H2 ((e0.trans e1).trans e2) (e2 _ _ hp0) H2 (Ex.refl H2) _ (fun H3 e3 => q H3 ((e1.trans e2).trans e3)) E
theorem cut_from (xs : List V) (k : Nat) : cutV xs (some (k : Int)) none = xs.drop k := by
  unfold cutV
  rw [HT.sIx_nat, HT.sIx_none]
  by_cases h : k ≤ xs.length
  · rw [Nat.min_eq_left h, List.take_of_length_le (by rw [List.length_drop]; omega)]
  · rw [Nat.min_eq_right (by omega), Nat.sub_self, List.take_zero, List.drop_of_length_le (by omega)]
theorem s_asgSub {l : Addr} {xs : List V} {z : Int} {j : Nat} {te ta tb : TE} {σ : L2.St} {H : Hp} {v : V} {D : Ends} (hl : H l = some (.lst xs)) (h : Ev te σ H v) (ho : Ev ta σ H (.ref l)) (hi : Ev tb σ H (.int z)) (hz : z = (j : Int)) (hj : j < xs.length)
    (k : ∀ H1, Ex H H1 → D.nx σ (upd H1 l (.lst (xs.set j v)))) : tAsg te (gSub ta tb rSetL) D σ H := s_setL hl h ho (hz ▸ hi) hj k
end Su
open PySem PySem.Spec PyProof.Rows L2 Evl Su
/-! ### small tactics: "ev" an expression, "et" a test, "ea" arguments, "rv" an operator, "rc" a built-in, "hc" a bound -/
local macro_rules | `(tactic| walk_at "hc") => `(tactic| first | assumption | omega | (exact Su.CMul.l (by omega) (by omega)) | (exact Su.CMul.r (by omega) (by omega)) | (exact Su.wm (Su.n400' (by omega) (by omega)) (Su.n400' (by omega) (by omega))) | (exact Su.wd (by omega) (Su.n400' (by omega) (by omega))) | decide)
local macro_rules | `(tactic| walk_at "rv") => `(tactic| first
  | (with_reducible exact rv_I0)
  | (with_reducible exact rv_eq rfl)
  | (with_reducible exact rv_ne rfl)
  | (with_reducible refine Su.rv_mod ?_; walk_at "hc")
  | (with_reducible refine Su.rv_div ?_ ?_ <;> walk_at "hc")
  | (with_reducible refine Su.rv_mul ?_; walk_at "hc")
  | exact Su.rv_p18
  | exact Su.rv_p12
  | exact Su.rv_p20
  | (with_reducible refine Su.rv_divW ?_; walk_at "hc")
  | (with_reducible refine Su.rv_mulW ?_; walk_at "hc")
  | (apply rv_ixL; (first | assumption | (exact sq_of (by assumption))); (first | (apply Su.at_rows <;> walk_at "hc") | rfl | assumption)))
local macro_rules | `(tactic| walk_at "rc") => `(tactic| first
  | exact Su.rc_abs
  | exact Su.rc_max
  | exact Su.rc_min
  | exact Su.rc_isi_int (b := true) (by decide +kernel)
  | exact Su.rc_isi_int (b := false) (by decide +kernel))
local macro_rules | `(tactic| walk_at "ea") => `(tactic| first
  | exact ea_nil
  | (apply ea_cons; (walk_at "ev"); (walk_at "ea")))
local macro_rules | `(tactic| walk_at "ev") => `(tactic| first
  | exact ev_c
  | exact ev_var rfl
  | (apply ev_op; (walk_at "ev"); (walk_at "ev"); (walk_at "rv"))
  | (apply ev_un; (walk_at "ev"); (exact ru_neg))
  | (apply ev_andV; (walk_at "ev"); (intro _; walk_at "ev"))
  | (apply ev_orV; (walk_at "ev"); (intro _; walk_at "ev"))
  | (apply ev_notV; (walk_at "ev"))
  | (apply ev_len; (walk_at "ev"); first | assumption | (exact sq_of (by assumption)))
  | (apply ev_cb; (walk_at "ea"); (walk_at "rc")))
local macro_rules | `(tactic| walk_at "et") => `(tactic| first
  | (apply et_and; (walk_at "et"); (intro _; walk_at "et"))
  | (apply et_or; (walk_at "et"); (intro _; walk_at "et"))
  | (apply et_not; (walk_at "et"))
  | (apply et_test; (walk_at "ev"))
  | (apply et_B; (walk_at "ev")))

open PySem PySem.Spec PyProof.Rows L2 Evl Su
namespace Su
def topS (i : Nat) : Stmt := PySem.Challenge.pw_susu_k19_worth_of_early_draws.main.body.getD i (.Pass ⟨0, 0, 0, 0⟩)
abbrev s_worth : Stmt := topS 5
abbrev N_worth : List Str := ["row", "up", "down", "total", "ahead", "coins"]
theorem sc_worth : FnScope N_worth ["row", "up", "down"] (defScope s_worth) := ⟨rfl, rfl, rfl, by decide +kernel, rfl, by decide +kernel, by decide +kernel⟩
abbrev s__law_draws : Stmt := topS 7
abbrev N__law_draws : List Str := ["_law_script", "_law_many", "_law_rows", "_law_mix", "_law_cell", "_law_rest"]
theorem sc__law_draws : FnScope N__law_draws ["_law_script", "_law_many"] (defScope s__law_draws) := ⟨rfl, rfl, rfl, by decide +kernel, rfl, by decide +kernel, by decide +kernel⟩
abbrev s__law_whole : Stmt := topS 8
abbrev N__law_whole : List Str := ["_law_told"]
theorem sc__law_whole : FnScope N__law_whole ["_law_told"] (defScope s__law_whole) := ⟨rfl, rfl, rfl, by decide +kernel, rfl, by decide +kernel, by decide +kernel⟩
abbrev s_law : Stmt := topS 9
abbrev N_law : List Str := ["_law_script", "_law_some", "_law_size", "_law_stake", "_law_early", "_law_late", "_law_up", "_law_down", "_law_one", "_law_other", "_law_here", "_law_there"]
theorem sc_law : FnScope N_law ["_law_script"] (defScope s_law) := ⟨rfl, rfl, rfl, by decide +kernel, rfl, by decide +kernel, by decide +kernel⟩
structure Top (K : PySem.W.Frag) (mg : Str → Option Value) where
  f_worth : Addr
  fd_worth : FuncData
  F_worth : Fun K "worth" "worth" s_worth f_worth fd_worth
  b_worth : Binds K fd_worth ["row", "up", "down"] []
  m_worth : mg "worth" = some (.ref f_worth)
  f__law_draws : Addr
  fd__law_draws : FuncData
  F__law_draws : Fun K "_law_draws" "_law_draws" s__law_draws f__law_draws fd__law_draws
  b__law_draws : Binds K fd__law_draws ["_law_script", "_law_many"] []
  m__law_draws : mg "_law_draws" = some (.ref f__law_draws)
  f__law_whole : Addr
  fd__law_whole : FuncData
  F__law_whole : Fun K "_law_whole" "_law_whole" s__law_whole f__law_whole fd__law_whole
  b__law_whole : Binds K fd__law_whole ["_law_told"] []
  m__law_whole : mg "_law_whole" = some (.ref f__law_whole)
  f_law : Addr
  fd_law : FuncData
  F_law : Fun K "law" "law" s_law f_law fd_law
  b_law : Binds K fd_law ["_law_script"] []
  m_law : mg "law" = some (.ref f_law)
  m_abs : mg "abs" = none
  m_bool : mg "bool" = none
  m_int : mg "int" = none
  m_isinstance : mg "isinstance" = none
  m_len : mg "len" = none
  m_min : mg "min" = none
  t_MOST_TIMES : Tok
  m_MOST_TIMES : mg "MOST_TIMES" = some (.int 1000 t_MOST_TIMES)
end Su
namespace Su
/-! ### rules whose written part is named, for blocks -/
section
variable {X : Cx} {K : PySem.W.Frag}
theorem ix_listK (h : X.K = K := by rfl) : IxR X (rIxL K) := h ▸ ix_list
theorem ix_tupK (h : X.K = K := by rfl) : IxR X (rIxT K) := h ▸ ix_tup
theorem call_len_seqK (h : X.K = K := by rfl) : CallR X (.builtin "len") (fun xs H Q => ∃ p ys, xs = [.ref p] ∧ (SqL K H p ys ∨ SqT K H p ys) ∧ Q (.int ys.length) H) := h ▸ call_len_seq
theorem op_in_seqK (h : X.K = K := by rfl) : OpR X (compareOp .In) (rIn K false) := h ▸ op_in_seq
theorem op_notIn_seqK (h : X.K = K := by rfl) : OpR X (compareOp .NotIn) (rIn K true) := h ▸ op_notIn_seq
theorem call_list_ofK (h : X.K = K := by rfl) : CallR X (.type "list") (fun xs H Q => ∃ p ys, xs = [.ref p] ∧ (SqL K H p ys ∨ SqT K H p ys) ∧ ∀ l, H l = none → Q (.ref l) (upd H l (.lst ys))) := h ▸ call_list_of
theorem call_isiK' (h : X.K = K := by rfl) : CallR X (.builtin "isinstance") (rIsi K) := h ▸ call_isi
end

end Su
namespace Su
/-! ### the drawn numbers -/
def Rows (m : Nat) (rows : List Int) : Prop := m ≤ rows.length ∧ rows.length ≤ m + 63 ∧ ∀ x ∈ rows, -(10 ^ 18) < x ∧ x < 10 ^ 18
theorem Rows.add {rows : List Int} {x : Int} (h : ∀ x ∈ rows, -(10 ^ 18) < x ∧ x < 10 ^ 18) (h1 : -(10 ^ 18) < x) (h2 : x < 10 ^ 18) : ∀ y ∈ rows ++ [x], -(10 ^ 18) < y ∧ y < 10 ^ 18 := fun y hy => by
  rcases List.mem_append.mp hy with h' | h'
  · exact h y h'
  · obtain rfl := List.mem_singleton.mp h'
    exact ⟨h1, h2⟩
theorem Rows.get {m : Nat} {rows : List Int} (h : Rows m rows) (i : Nat) : -(10 ^ 18) < rows.getD i 0 ∧ rows.getD i 0 < 10 ^ 18 := by
  by_cases hi : i < rows.length
  · rw [List.getD_eq_getElem?_getD, List.getElem?_eq_getElem hi]
    exact h.2.2 _ (List.getElem_mem hi)
  · rw [List.getD_eq_getElem?_getD, List.getElem?_eq_none (by omega)]
    decide
section
variable {P : Program} {w : World} {K : PySem.W.Frag} {mg : Str → Option Value} {base : Heap}
def spDraws (K : PySem.W.Frag) : Sp := fun vs H Q _ => ∃ (a : Addr) (ns : List Int) (m : Nat), vs = [.ref a, .int (m : Int)] ∧ SqL K H a (ns.map V.int) ∧ ns.length ≤ 63 ∧ m ≤ 1000 ∧
  ∀ rows H' p, H p = none → Ex H H' → H' p = some (.lst (rows.map V.int)) → Rows m rows → Q (.ref p) H'
theorem spN_draws {K : PySem.W.Frag} {a : Addr} {ns : List Int} {m : Nat} {H : Hp} (hS : SqL K H a (ns.map V.int)) (hl : ns.length ≤ 63) (hm : m ≤ 1000) : SpN (spDraws K) [.ref a, .int (m : Int)] H (fun xs => ∃ rows : List Int, Rows m rows ∧ xs = rows.map V.int) :=
  fun H1 e Q q E => ⟨a, ns, m, rfl, ex_l e hS, hl, hm, fun rows H' p hp e' h' hr => q _ p H' ⟨rows, hr, rfl⟩ hp e' h'⟩
def DrI (H0 : Hp) (a p : Addr) (m i : Nat) (σ : L2.St) (H : Hp) : Prop := ∃ (rows : List Int) (mix : Int) (y4 y5 : Option V), σ = [some (.ref a), some (.int (m : Int)), some (.ref p), some (.int mix), y4, y5] ∧ Ex H0 H ∧ H p = some (.lst (rows.map V.int)) ∧
  rows.length ≤ m + i ∧ 0 ≤ mix ∧ mix < 2147483647 ∧ ∀ x ∈ rows, -(10 ^ 18) < x ∧ x < 10 ^ 18
theorem ok__law_draws {f : Addr} {fd : FuncData} {k : Nat} (F : Fun K "_law_draws" "_law_draws" s__law_draws f fd) (T : Top K mg) : FnOk P w K mg base CX0 (k + 1) f fd ["_law_script", "_law_many"] (spDraws K) := by
  have nd := sc__law_draws.nd
  refine F.ok sc__law_draws (fun vs H Q E h => ?_) (fun cdv A outer s H vs Q E hr h => ?_)
  · obtain ⟨a, ns, m, rfl, _⟩ := h
    rfl
  · obtain ⟨a, ns, m, rfl, hS, hlen, hm, q⟩ := h
    refine ⟨_, (pss_cons (ps_set (i := 2) nd rfl (.inl rfl) (pe_lst pa_nil))
      (pss_cons (ps_set (i := 3) nd rfl (.inl rfl) pe_int)
      (pss_cons (ps_for PassesOwn.never rfl (pi_list (pv 0)) (pg_name (i := 4) nd rfl (.inl rfl))
        (pss_cons (ps_set (i := 3) nd rfl (.inl rfl) (pe_op op_mod (pe_op op_add (pe_op op_mul (pv 3) pe_int) (pv 4)) pe_int))
          (pss_cons (ps_set (i := 5) nd rfl (.inl rfl) (pe_callB call_abs (by rfl) T.m_abs (by decide +kernel) (pa_cons (pv 4) pa_nil)))
          (pss_cons (ps_if (pt_cmpR op_lt (pv 5) (pe_op op_pow pe_int pe_int) (nomark _))
            (pss_cons (ps_expr (pe_bm PySem.F.plainAttrs_list PySem.F.slot_list_append PySem.F.type_list_append mt_append (pv 2) (pa_cons (pv 4) pa_nil)))
              (pss_one (ps_set (i := 5) nd rfl (.inl rfl) pe_int)))
            pss_nil)
          (pss_one (ps_while PassesOwn.never (PW.pt (pw_and (pt_cmpR op_gt (pv 5) pe_int (nomark _)) (pw_and1 (pt_cmpR op_lt (pe_callB call_len_seq (by rfl) T.m_len PySem.boot_len (pa_cons (pv 2) pa_nil)) (pv 1) (nomark _)))))
            (pss_cons (ps_expr (pe_bm PySem.F.plainAttrs_list PySem.F.slot_list_append PySem.F.type_list_append mt_append (pv 2) (pa_cons (pe_op op_mod (pv 5) pe_int) pa_nil)))
              (pss_one (ps_set (i := 5) nd rfl (.inl rfl) (pe_op op_fdiv (pv 5) pe_int))))))))))
      (pss_cons (ps_while PassesOwn.never (pt_cmpR op_lt (pe_callB call_len_seq (by rfl) T.m_len PySem.boot_len (pa_cons (pv 2) pa_nil)) (pv 1) (nomark _))
        (pss_cons (ps_set (i := 3) nd rfl (.inl rfl) (pe_op op_mod (pe_op op_add (pe_op op_mul (pv 3) pe_int) pe_int) pe_int))
          (pss_one (ps_expr (pe_bm PySem.F.plainAttrs_list PySem.F.slot_list_append PySem.F.type_list_append mt_append (pv 2) (pa_cons (pe_op op_mod (pe_op op_mul (pv 3) (pv 3)) pe_int) pa_nil))))))
      (pss_one (ps_ret (pv 2))))))), ?_⟩
    -- rows = []; mix = 1
    refine q_asgL (el_lst ea_nil (by decide)) fun p H1 hp e1 h1 => ?_
    have hS1 := ex_l e1 hS
    refine q_asg (by walk_at "ev") fun H2 e2 => ?_
    refine q_forL (by walk_at "ev") (ex_l e2 hS1) (DrI H a p m) ?_ ?_ ?_ ?_
    · intro H3 e3
      exact ⟨[], 1, none, none, rfl, (e1.trans e2).trans e3, e3 p _ (e2 p _ h1), Nat.zero_le _, by omega, by omega, fun x hx => by cases hx⟩
    · rintro i σ' H' _ ⟨rows, mix, y4, y5, rfl, ex, _⟩
      exact ex_l ex hS
    · rintro i x σ' H' hx ⟨rows, mix, y4, y5, rfl, ex, hr', hrl, m0, m1, hb⟩
      obtain ⟨c, rfl⟩ : ∃ c : Int, x = .int c := by
        rw [List.getElem?_map] at hx
        cases hc : ns[i]? with
        | none => rw [hc] at hx; cases hx
        | some c => rw [hc] at hx; exact ⟨c, (Option.some.inj hx).symm⟩
      have hi : i < 63 := by
        have := (List.getElem?_eq_some_iff.mp hx).1
        rw [List.length_map] at this
        omega
      refine q_asg (by walk_at "ev") fun H3 e3 => ?_
      have m0' := Int.emod_nonneg (mix * 31 + c) (show (2147483647 : Int) ≠ 0 by decide)
      have m1' := Int.emod_lt_of_pos (mix * 31 + c) (show (0 : Int) < 2147483647 by decide)
      generalize (mix * 31 + c) % 2147483647 = mix' at m0' m1' ⊢
      refine q_asg (by walk_at "ev") fun H4 e4 => ?_
      have hr4 := ex_g e4 (ex_g e3 hr')
      have ex4 := (ex.trans e3).trans e4
      have r0 : 0 ≤ (if c < 0 then -c else c) := by split <;> omega
      have rc : (if c < 0 then -c else c) < 10 ^ 18 → -(10 ^ 18) < c ∧ c < 10 ^ 18 := by split <;> omega
      generalize (if c < 0 then -c else c) = rest at r0 rc ⊢
      -- what stands behind the if: the while
      have hwh : ∀ (rows' : List Int) (rest' : Int) (y4' : Option V) (H5 : Hp), Ex H H5 → H5 p = some (.lst (rows'.map V.int)) → rows'.length ≤ m + (i + 1) → 0 ≤ rest' → (0 < rest' → rows'.length ≤ m + i) → (∀ x ∈ rows', -(10 ^ 18) < x ∧ x < 10 ^ 18) →
          ∀ (tc : TT) (tb : TS) (D : Ends), True → True := fun _ _ _ _ _ _ _ _ _ _ _ _ _ _ => trivial
      clear hwh
      refine q_when (by walk_at "et") (fun hb' H5 e5 => ?_) (fun hb' H5 e5 => ?_)
      · have hlt : rest < 10 ^ 18 := of_decide_eq_true hb'
        obtain ⟨c1, c2⟩ := rc hlt
        refine q_app (ex_g e5 hr4) (by walk_at "ev") (by walk_at "ev") (by rw [List.length_map]; omega) fun H6 e6 => ?_
        refine s_asg (by walk_at "ev") fun H7 e7 => ?_
        have hp7 : H7 p = some (.lst ((rows ++ [c]).map V.int)) := e7 p _ (by rw [upd_same, List.map_append]; rfl)
        have ex7 : Ex H H7 := (ex_up ((ex4.trans e5).trans e6) hp).trans e7
        refine s_while (fun n σ2 H2 => n = 0 ∧ σ2 = [some (.ref a), some (.int (m : Int)), some (.ref p), some (.int mix'), some (.int c), some (.int 0)] ∧ Ex H H2 ∧ H2 p = some (.lst ((rows ++ [c]).map V.int))) 0 ⟨rfl, rfl, ex7, hp7⟩ ?_
        rintro n σ2 H2 ⟨rfl, rfl, ex2, hp2⟩
        refine ⟨_, by walk_at "et", fun hb2 => ?_, fun hb2 H8 e8 => ?_⟩
        · simp at hb2
        · exact ⟨rows ++ [c], mix', _, _, rfl, ex2.trans e8, e8 p _ hp2, by rw [List.length_append]; show rows.length + 1 ≤ _; omega, m0', m1', Rows.add hb c1 c2⟩
      · refine s_while (fun n σ2 H2 => ∃ (rows' : List Int) (rest' : Int), σ2 = [some (.ref a), some (.int (m : Int)), some (.ref p), some (.int mix'), some (.int c), some (.int rest')] ∧ n = rest'.toNat ∧ Ex H H2 ∧ H2 p = some (.lst (rows'.map V.int)) ∧ rows'.length ≤ m + i ∧ 0 ≤ rest' ∧ ∀ x ∈ rows', -(10 ^ 18) < x ∧ x < 10 ^ 18) rest.toNat
          ⟨rows, rest, rfl, rfl, ex4.trans e5, ex_g e5 hr4, hrl, r0, hb⟩ ?_
        rintro n σ2 H2 ⟨rows', rest', rfl, rfl, ex2, hp2, hrl', r0', hb'⟩
        refine ⟨_, by walk_at "et", fun hb2 H8 e8 => ?_, fun hb2 H8 e8 => ?_⟩
        · have hb3 := Bool.and_eq_true_iff.mp hb2
          have hpos : 0 < rest' := of_decide_eq_true hb3.1
          have hlm : ((rows'.map V.int).length : Int) < m := of_decide_eq_true hb3.2
          rw [List.length_map] at hlm
          refine ⟨fun σ3 H3 => ∃ n', n' < rest'.toNat ∧ ∃ (rows' : List Int) (rest' : Int), σ3 = [some (.ref a), some (.int (m : Int)), some (.ref p), some (.int mix'), some (.int c), some (.int rest')] ∧ n' = rest'.toNat ∧ Ex H H3 ∧ H3 p = some (.lst (rows'.map V.int)) ∧ rows'.length ≤ m + i ∧ 0 ≤ rest' ∧ ∀ x ∈ rows', -(10 ^ 18) < x ∧ x < 10 ^ 18, fun _ _ h => h, ?_⟩
          refine q_app (ex_g e8 hp2) (by walk_at "ev") (by walk_at "ev") (by rw [List.length_map]; omega) fun H9 e9 => ?_
          refine s_asg (by walk_at "ev") fun H10 e10 => ?_
          have d0 := Int.emod_nonneg rest' (show (1000003 : Int) ≠ 0 by decide)
          have d1 := Int.emod_lt_of_pos rest' (show (0 : Int) < 1000003 by decide)
          refine ⟨(rest' / 1000003).toNat, by omega, rows' ++ [rest' % 1000003], rest' / 1000003, rfl, rfl, (ex_up ((ex2.trans e8).trans e9) hp).trans e10, e10 p _ (by rw [upd_same, List.map_append]; rfl), ?_, by omega, Rows.add hb' (by omega) (by omega)⟩
          rw [List.length_append]
          show rows'.length + 1 ≤ _
          omega
        · exact ⟨rows', mix', _, _, rfl, ex2.trans e8, e8 p _ hp2, by omega, m0', m1', hb'⟩
    · rintro σ' H' ⟨rows, mix, y4, y5, rfl, ex, hr', hrl, m0, m1, hb⟩
      rw [List.length_map] at hrl
      refine q_while (fun n σ2 H2 => ∃ (rows : List Int) (mix : Int), σ2 = [some (.ref a), some (.int (m : Int)), some (.ref p), some (.int mix), y4, y5] ∧ n = m - rows.length ∧ Ex H H2 ∧ H2 p = some (.lst (rows.map V.int)) ∧ rows.length ≤ m + 63 ∧ 0 ≤ mix ∧ mix < 2147483647 ∧ ∀ x ∈ rows, -(10 ^ 18) < x ∧ x < 10 ^ 18)
        (m - rows.length) ⟨rows, mix, rfl, rfl, ex, hr', by omega, m0, m1, hb⟩ ?_
      rintro n σ2 H2 ⟨rows, mix, rfl, rfl, ex, hr', hrl, m0, m1, hb⟩
      refine ⟨_, by walk_at "et", fun hb2 H8 e8 => ?_, fun hb2 H8 e8 => ?_⟩
      · have hlm : ((rows.map V.int).length : Int) < m := of_decide_eq_true hb2
        rw [List.length_map] at hlm
        refine ⟨fun σ3 H3 => ∃ n', n' < m - rows.length ∧ ∃ (rows : List Int) (mix : Int), σ3 = [some (.ref a), some (.int (m : Int)), some (.ref p), some (.int mix), y4, y5] ∧ n' = m - rows.length ∧ Ex H H3 ∧ H3 p = some (.lst (rows.map V.int)) ∧ rows.length ≤ m + 63 ∧ 0 ≤ mix ∧ mix < 2147483647 ∧ ∀ x ∈ rows, -(10 ^ 18) < x ∧ x < 10 ^ 18, fun _ _ h => h, ?_⟩
        refine q_asg (by walk_at "ev") fun H9 e9 => ?_
        have m0' := Int.emod_nonneg (mix * 48271 + 11) (show (2147483647 : Int) ≠ 0 by decide)
        have m1' := Int.emod_lt_of_pos (mix * 48271 + 11) (show (0 : Int) < 2147483647 by decide)
        generalize (mix * 48271 + 11) % 2147483647 = mix' at m0' m1' ⊢
        refine s_app (ex_g e9 (ex_g e8 hr')) (by walk_at "ev") (by walk_at "ev") (by rw [List.length_map]; omega) fun H10 e10 => ?_
        have d0 := Int.emod_nonneg (mix' * mix') (show (999983 : Int) ≠ 0 by decide)
        have d1 := Int.emod_lt_of_pos (mix' * mix') (show (0 : Int) < 999983 by decide)
        refine ⟨m - (rows.length + 1), by omega, rows ++ [mix' * mix' % 999983], mix', rfl, by rw [List.length_append]; rfl, ex_up (((ex.trans e8).trans e9).trans e10) hp, by rw [upd_same, List.map_append]; rfl, ?_, m0', m1', Rows.add hb (by omega) (by omega)⟩
        rw [List.length_append]
        show rows.length + 1 ≤ _
        omega
      · refine s_ret (by walk_at "ev") fun H9 e9 => ?_
        have hlm : ¬ ((rows.map V.int).length : Int) < m := of_decide_eq_false hb2
        rw [List.length_map] at hlm
        exact q rows H9 p hp ((ex.trans e8).trans e9) (e9 p _ (e8 p _ hr')) ⟨by omega, hrl, hb⟩
end

end Su
namespace Su
/-! ### o[i] += e of a list; [e] * n -/
section
variable {X : Cx}
def rGetL (K : PySem.W.Frag) : V → V → Hp → VK → Prop := fun x y H Q => ∃ p xs i v, x = .ref p ∧ y = .int i ∧ 0 ≤ i ∧ SqL K H p xs ∧ atI xs i = some v ∧ Q v H
theorem get_list : PGet X (rGetL X.K) := by
  intro pins s σ H x y v u Q I rx ry h
  obtain ⟨p, xs, i, z, rfl, rfl, h0, hq, he, q⟩ := h
  cases rx
  obtain ⟨t, rfl⟩ := ry
  obtain ⟨its, r, pl, hz⟩ := I.list hq
  obtain ⟨j, h1, h2, h3, h4, h5⟩ := atI_get he
  obtain ⟨w, ew, rw'⟩ := r.get h2
  have hl := r.length
  have hn := line63
  have hj : i.toNat = j := by
    rw [seqIndex_of h0 h5] at h1
    exact Option.some.inj h1
  exact wpAny_getItem_list pl.isList h0 (by omega) (by rw [hj]; simpa using ew) ⟨z, H, I, rw', q⟩
end
theorem q_augL {to ti te : TE} {K : PySem.W.Frag} {σ : L2.St} {H : Hp} {D : Ends} {tz : TS} {l : Addr} {xs : List V} {z a b : Int} {j : Nat} {f : Int → Int → Int} (hl : H l = some (.lst xs)) (ho : Ev to σ H (.ref l)) (hi : Ev ti σ H (.int z)) (hz : z = (j : Int)) (hx : xs[j]? = some (.int a)) (h : Ev te σ H (.int b))
    (k : ∀ H1, Ex H H1 → tz D σ (upd H1 l (.lst (xs.set j (.int (f a b)))))) : tSeq (tAugS to ti te (rGetL K) (ipI f) rSetL) tz D σ H := by
  have hj : j < xs.length := (List.getElem?_eq_some_iff.mp hx).1
  refine ho H (Ex.refl H) _ fun H1 e1 => hi H1 e1 _ fun H2 e2 => ?_
  refine ⟨l, xs, z, .int a, rfl, rfl, by omega, sq_of (e2 l _ (e1 l _ hl)), at_of hz hx, h H2 (e1.trans e2) _ fun H3 e3 => ?_⟩
  refine ⟨a, b, rfl, rfl, l, xs, z, j, rfl, rfl, e3 l _ (e2 l _ (e1 l _ hl)), ?_, k H3 ((e1.trans e2).trans e3)⟩
  rw [hz]
  exact ixN_nat hj
theorem st_lastAugL {to ti te : TE} {K : PySem.W.Frag} {σ : L2.St} {H : Hp} {D : Ends} {l : Addr} {xs : List V} {z a b : Int} {j : Nat} {f : Int → Int → Int} (hl : H l = some (.lst xs)) (ho : Ev to σ H (.ref l)) (hi : Ev ti σ H (.int z)) (hz : z = (j : Int)) (hx : xs[j]? = some (.int a)) (h : Ev te σ H (.int b))
    (k : ∀ H1, Ex H H1 → D.nx σ (upd H1 l (.lst (xs.set j (.int (f a b)))))) : tAugS to ti te (rGetL K) (ipI f) rSetL D σ H := q_augL (D := D) (tz := fun D' σ' H' => D'.nx σ' H') hl ho hi hz hx h k
theorem flat1 {v : V} : ∀ n : Nat, (List.replicate n [v]).flatten = List.replicate n v
  | 0 => rfl
  | n + 1 => by rw [List.replicate_succ, List.replicate_succ, List.flatten_cons, flat1 n]; rfl
theorem el_rep1 {ta tb : TE} {σ : L2.St} {H : Hp} {v : V} {k : Int} (ha : EvL ta σ H [v]) (hb : Ev tb σ H (.int k)) (h0 : 0 ≤ k) (h1 : k ≤ 100000) : EvL (tOp rRep ta tb) σ H (List.replicate k.toNat v) := fun H1 e Q q =>
  ha H1 e _ fun p H2 hp e2 h2 => hb H2 (e.trans e2) _ fun H3 e3 => ⟨p, k, [v], rfl, rfl, e3 p _ h2, by omega, by omega, sz_of (by show 1 * k.toNat ≤ _; omega), fun r hr => by
    rw [flat1]
    exact q r _ (fresh_back (e2.trans e3) hr) ((e2.trans e3).trans (Ex.new hr)) upd_same⟩

end Su
namespace Su
theorem chain_le' {σ : L2.St} {H : Hp} {ta tb tc : TE} {a b c : Int} (h1 : Ev ta σ H (.int a)) (h2 : Ev tb σ H (.int b)) (h3 : Ev tc σ H (.int c)) :
    Ev (tChain (rI0 fun i j => .bl (decide (i ≤ j))) (rI0 fun i j => .bl (decide (i ≤ j))) ta tb tc) σ H (.bl (decide (a ≤ b) && decide (b ≤ c))) := fun H1 e Q q =>
  h1 H1 e _ fun H2 e2 => h2 H2 (e.trans e2) _ fun H3 e3 => ⟨a, b, rfl, rfl, decide (a ≤ b), rfl, by
    cases hd : decide (a ≤ b) with
    | true =>
      show tc σ H3 _
      exact h3 H3 ((e.trans e2).trans e3) _ fun H4 e4 => ⟨b, c, rfl, rfl, by rw [hd] at q; exact q H4 ((e2.trans e3).trans e4)⟩
    | false =>
      rw [hd] at q
      exact q H3 (e2.trans e3)⟩
theorem chain_le {σ : L2.St} {H : Hp} {ta tb tc : TE} {a b c : Int} (h1 : Ev ta σ H (.int a)) (h2 : Ev tb σ H (.int b)) (h3 : Ev tc σ H (.int c)) :
    EvT (tTest (tChain (rI0 fun i j => .bl (decide (i ≤ j))) (rI0 fun i j => .bl (decide (i ≤ j))) ta tb tc)) σ H (decide (a ≤ b) && decide (b ≤ c)) := fun H1 e Q q =>
  h1 H1 e _ fun H2 e2 => h2 H2 (e.trans e2) _ fun H3 e3 => ⟨a, b, rfl, rfl, decide (a ≤ b), rfl, by
    cases hd : decide (a ≤ b) with
    | true =>
      show tc σ H3 _
      exact h3 H3 ((e.trans e2).trans e3) _ fun H4 e4 => ⟨b, c, rfl, rfl, decide (b ≤ c), rfl, by rw [hd] at q; exact q H4 ((e2.trans e3).trans e4)⟩
    | false =>
      rw [hd] at q
      exact ⟨false, rfl, q H3 (e2.trans e3)⟩⟩

end Su
namespace Su
/-! ### worth -/
def worthG (up down : Int) : List Int → Int → Int → Int
  | [], t, _ => t
  | c :: r, t, a => worthG up down r (t * up + c * a) (a * down)
section
variable {P : Program} {w : World} {K : PySem.W.Frag} {mg : Str → Option Value} {base : Heap}
theorem n2 {x : Int} {a : Nat} (h : x.natAbs < 2 ^ a) {b : Nat} (hb : a ≤ b) : x.natAbs < 2 ^ b := Nat.lt_of_lt_of_le h (Nat.pow_le_pow_right (by decide) hb)
theorem n2add {x y : Int} {a : Nat} (h1 : x.natAbs < 2 ^ a) (h2 : y.natAbs < 2 ^ a) : (x + y).natAbs < 2 ^ (a + 1) := by
  rw [Nat.pow_succ]
  omega
theorem n2of {x : Int} {a : Nat} {n : Int} (h1 : -n ≤ x) (h2 : x ≤ n) (h : n.toNat < 2 ^ a) : x.natAbs < 2 ^ a := by omega
theorem drop_cons_of {l : List Int} {i : Nat} {x : Int} (h : l[i]? = some x) : l.drop i = x :: l.drop (i + 1) := by
  obtain ⟨h1, h2⟩ := List.getElem?_eq_some_iff.mp h
  rw [List.drop_eq_getElem_cons h1, h2]
theorem int_at {ns : List Int} {i : Nat} {x : V} (h : (ns.map V.int)[i]? = some x) : ∃ c, x = .int c ∧ ns[i]? = some c := by
  rw [List.getElem?_map] at h
  cases hc : ns[i]? with
  | none => rw [hc] at h; cases h
  | some c => rw [hc] at h; exact ⟨c, (Option.some.inj h).symm, rfl⟩
/-! the mathematics -/
theorem worth_lin (up down : Int) : ∀ (l : List Int) (t y a : Int), worthG up down l (t + y) a = worthG up down l t a + y * up ^ l.length
  | [], t, y, a => by rw [List.length_nil, Int.pow_zero, Int.mul_one]; rfl
  | c :: r, t, y, a => by
    show worthG up down r ((t + y) * up + c * a) (a * down) = worthG up down r (t * up + c * a) (a * down) + y * up ^ (r.length + 1)
    rw [show (t + y) * up + c * a = (t * up + c * a) + y * up by rw [Int.add_mul]; omega, worth_lin up down r, Int.pow_succ', Int.mul_assoc]
theorem worth_set (up down x : Int) : ∀ (l : List Int) (e : Nat) (c t a : Int), l[e]? = some c → worthG up down (l.set e (c + x)) t a = worthG up down l t a + x * a * (up ^ (l.length - 1 - e) * down ^ e)
  | [], _, _, _, _, h => by simp at h
  | d :: r, 0, c, t, a, h => by
    obtain rfl : d = c := Option.some.inj h
    show worthG up down r (t * up + (d + x) * a) (a * down) = worthG up down r (t * up + d * a) (a * down) + x * a * (up ^ (r.length + 1 - 1 - 0) * down ^ 0)
    rw [show t * up + (d + x) * a = (t * up + d * a) + x * a by rw [Int.add_mul]; omega, worth_lin, Int.pow_zero, Int.mul_one]
    rfl
  | d :: r, e + 1, c, t, a, h => by
    have ih := worth_set up down x r e c (t * up + d * a) (a * down) h
    show worthG up down (r.set e (c + x)) (t * up + d * a) (a * down) = worthG up down r (t * up + d * a) (a * down) + x * a * (up ^ (r.length + 1 - 1 - (e + 1)) * down ^ (e + 1))
    rw [ih, show r.length + 1 - 1 - (e + 1) = r.length - 1 - e by omega, Int.pow_succ']
    congr 1
    ac_rfl
end

end Su
namespace Su
section
variable {P : Program} {w : World} {K : PySem.W.Frag} {mg : Str → Option Value} {base : Heap}
def spWorth (K : PySem.W.Frag) : Sp := fun vs H Q _ => ∃ (a : Addr) (row : List Int) (up down : Int), vs = [.ref a, .int up, .int down] ∧ SqL K H a (row.map V.int) ∧ row.length ≤ 40 ∧ (∀ x ∈ row, x.natAbs < 2 ^ 64) ∧ 1 ≤ up ∧ up ≤ 1000 ∧ 1 ≤ down ∧ down ≤ 1000 ∧
  ∀ H', Ex H H' → Q (.int (worthG up down row 0 1)) H'
theorem spV_worth {a : Addr} {row : List Int} {up down : Int} {H : Hp} (hS : SqL K H a (row.map V.int)) (hl : row.length ≤ 40) (hb : ∀ x ∈ row, x.natAbs < 2 ^ 64) (u1 : 1 ≤ up) (u2 : up ≤ 1000) (d1 : 1 ≤ down) (d2 : down ≤ 1000) :
    SpV (spWorth K) [.ref a, .int up, .int down] H (.int (worthG up down row 0 1)) := fun H1 e Q q _ => ⟨a, row, up, down, rfl, ex_l e hS, hl, hb, u1, u2, d1, d2, q⟩
theorem ok_worth {f : Addr} {fd : FuncData} {k : Nat} (F : Fun K "worth" "worth" s_worth f fd) (T : Top K mg) : FnOk P w K mg base CX0 (k + 1) f fd ["row", "up", "down"] (spWorth K) := by
  have nd := sc_worth.nd
  refine F.ok sc_worth (fun vs H Q E h => ?_) (fun cdv A outer s H vs Q E hr h => ?_)
  · obtain ⟨a, row, up, down, rfl, _⟩ := h
    rfl
  · obtain ⟨a, row, up, down, rfl, hS, hlen, hb, u1, u2, d1, d2, q⟩ := h
    refine ⟨_, (pss_cons (ps_if (pt_not (PW.pt (pw_and (pt_chain op_le op_le pe_int (pv 1) (pe_glob (v := .int 1000) (by rfl) T.m_MOST_TIMES ⟨_, rfl⟩)) (pw_and1 (pt_chain op_le op_le pe_int (pv 2) (pe_glob (v := .int 1000) (by rfl) T.m_MOST_TIMES ⟨_, rfl⟩))))))
        (pss_one ps_never)
        pss_nil)
      (pss_cons (ps_set (i := 3) nd rfl (.inl rfl) pe_int)
      (pss_cons (ps_set (i := 4) nd rfl (.inl rfl) pe_int)
      (pss_cons (ps_for PassesOwn.never rfl (pi_list (pv 0)) (pg_name (i := 5) nd rfl (.inl rfl))
        (pss_cons (ps_set (i := 3) nd rfl (.inl rfl) (pe_op op_add (pe_op op_mulW (pv 3) (pv 1)) (pe_op op_mulW (pv 5) (pv 4))))
          (pss_one (ps_set (i := 4) nd rfl (.inl rfl) (pe_op op_mulW (pv 4) (pv 2))))))
      (pss_one (ps_ret (pv 3))))))), ?_⟩
    refine q_when (b := false) ?_ (fun h => by cases h) fun _ H1 e1 => ?_
    · refine et_is (et_not (et_and (chain_le (by walk_at "ev") (by walk_at "ev") (by walk_at "ev")) (fun _ => chain_le (by walk_at "ev") (by walk_at "ev") (by walk_at "ev")))) ?_
      rw [decide_eq_true u1, decide_eq_true u2, decide_eq_true d1, decide_eq_true d2] <;> rfl
    refine q_asg (by walk_at "ev") fun H2 e2 => ?_
    refine q_asg (by walk_at "ev") fun H3 e3 => ?_
    have ex3 := (e1.trans e2).trans e3
    refine q_forL (by walk_at "ev") (ex_l ex3 hS) (fun i σ' H' => ∃ (t a' : Int) (y5 : Option V), σ' = [some (.ref a), some (.int up), some (.int down), some (.int t), some (.int a'), y5] ∧ Ex H H' ∧ worthG up down (row.drop i) t a' = worthG up down row 0 1 ∧ t.natAbs < 2 ^ (100 + 12 * i) ∧ a'.natAbs < 2 ^ (1 + 10 * i)) ?_ ?_ ?_ ?_
    · intro H4 e4
      exact ⟨0, 1, none, rfl, ex3.trans e4, rfl, by decide, by decide⟩
    · rintro i σ' H' _ ⟨t, a', y5, rfl, ex, _⟩
      exact ex_l ex hS
    · rintro i x σ' H' hx ⟨t, a', y5, rfl, ex, hw, ht, ha⟩
      obtain ⟨c, rfl, hc⟩ := int_at hx
      have hi : i < row.length := (List.getElem?_eq_some_iff.mp hc).1
      have hcb := hb c (List.mem_of_getElem? hc)
      have hu : up.natAbs < 2 ^ 10 := by omega
      have hd : down.natAbs < 2 ^ 10 := by omega
      have m1 : CMulW t up := wide_mul ht hu (by omega) (by decide) (by omega)
      have m2 : CMulW c a' := wide_mul hcb ha (by decide) (by omega) (by omega)
      have m3 : CMulW a' down := wide_mul ha hd (by omega) (by decide) (by omega)
      refine q_asg (by walk_at "ev") fun H4 e4 => ?_
      refine s_asg (by walk_at "ev") fun H5 e5 => ?_
      refine ⟨t * up + c * a', a' * down, _, rfl, (ex.trans e4).trans e5, ?_, ?_, ?_⟩
      · rw [← hw, drop_cons_of hc]
        rfl
      · exact n2 (n2add (n2 (wide_lt ht hu) (Nat.le_refl (100 + 12 * i + 10))) (n2 (wide_lt hcb ha) (by omega))) (by omega)
      · exact n2 (wide_lt ha hd) (by omega)
    · rintro σ' H' ⟨t, a', y5, rfl, ex, hw, _⟩
      refine s_ret (by walk_at "ev") fun H4 e4 => ?_
      rw [List.length_map, List.drop_length] at hw
      have := q H4 (ex.trans e4)
      rw [← hw] at this
      exact this
end

end Su
namespace Su
section
variable {P : Program} {w : World} {K : PySem.W.Frag} {mg : Str → Option Value} {base : Heap}
def spWhole : Sp := fun vs H Q _ => ∃ i : Int, vs = [.int i] ∧ ∀ H', Ex H H' → Q (.bl true) H'
theorem spV_whole {i : Int} {H : Hp} : SpV spWhole [.int i] H (.bl true) := fun H1 _ Q q _ => ⟨i, rfl, q⟩
theorem ok__law_whole {f : Addr} {fd : FuncData} {k : Nat} (F : Fun K "_law_whole" "_law_whole" s__law_whole f fd) (T : Top K mg) : FnOk P w K mg base CX0 (k + 1) f fd ["_law_told"] spWhole := by
  have nd := sc__law_whole.nd
  refine F.ok sc__law_whole (fun vs H Q E h => ?_) (fun cdv A outer s H vs Q E hr h => ?_)
  · obtain ⟨a, rfl, _⟩ := h
    rfl
  · obtain ⟨i, rfl, q⟩ := h
    refine ⟨_, (pss_one (ps_ret (pe_and (pe_callB call_isi (by rfl) T.m_isinstance (by decide +kernel) (pa_cons (pv 0) (pa_cons (pe_bltn (v := .ty "int") (by rfl) T.m_int (by decide +kernel) rfl) pa_nil))) (pe_one (pe_not (pe_callB call_isi (by rfl) T.m_isinstance (by decide +kernel) (pa_cons (pv 0) (pa_cons (pe_bltn (v := .ty "bool") (by rfl) T.m_bool (by decide +kernel) rfl) pa_nil)))))))), ?_⟩
    refine s_ret (by walk_at "ev") fun H1 e1 => ?_
    exact q H1 e1
end

end Su
namespace Su
section
theorem pow_pos1 {x : Int} (h : 1 ≤ x) : ∀ n : Nat, 1 ≤ x ^ n
  | 0 => by rw [Int.pow_zero]; omega
  | n + 1 => by
    have := pow_pos1 h n
    rw [Int.pow_succ]
    have := Int.mul_le_mul_of_nonneg_left h (show 0 ≤ x ^ n by omega)
    omega
theorem pw_step {u d : Int} (h1 : 1 ≤ u) (h2 : 1 ≤ d) {n e : Nat} (he : e + 1 < n) : u ^ (n - 1 - e) * d ^ e - u ^ (n - 1 - (e + 1)) * d ^ (e + 1) = (u ^ (n - 1 - (e + 1)) * d ^ e) * (u - d) := by
  rw [show n - 1 - e = (n - 1 - (e + 1)) + 1 by omega, Int.pow_succ, Int.pow_succ, Int.mul_sub]
  congr 1
  · ac_rfl
  · ac_rfl
theorem pw_gt {u d : Int} (h1 : 1 ≤ d) (h : d < u) {n : Nat} {e : Nat} : ∀ (k : Nat), e + k + 1 < n → u ^ (n - 1 - (e + k + 1)) * d ^ (e + k + 1) < u ^ (n - 1 - e) * d ^ e
  | 0, hl => by
    have hs := pw_step (u := u) (d := d) (by omega) h1 hl
    have p := Int.mul_pos (Int.mul_pos (show 0 < u ^ (n - 1 - (e + 1)) by have := pow_pos1 (show 1 ≤ u by omega) (n - 1 - (e + 1)); omega) (show 0 < d ^ e by have := pow_pos1 h1 e; omega)) (show 0 < u - d by omega)
    show u ^ (n - 1 - (e + 1)) * d ^ (e + 1) < _
    omega
  | k + 1, hl => by
    have ih := pw_gt h1 h (n := n) (e := e) k (by omega)
    have hs := pw_step (u := u) (d := d) (by omega) h1 (n := n) (e := e + k + 1) (by omega)
    have p := Int.mul_pos (Int.mul_pos (show 0 < u ^ (n - 1 - (e + k + 1 + 1)) by have := pow_pos1 (show 1 ≤ u by omega) (n - 1 - (e + k + 1 + 1)); omega) (show 0 < d ^ (e + k + 1) by have := pow_pos1 h1 (e + k + 1); omega)) (show 0 < u - d by omega)
    show u ^ (n - 1 - (e + k + 1 + 1)) * d ^ (e + k + 1 + 1) < _
    omega
theorem pw_lt {u d : Int} (h1 : 1 ≤ u) (h : u < d) {n : Nat} {e : Nat} : ∀ (k : Nat), e + k + 1 < n → u ^ (n - 1 - e) * d ^ e < u ^ (n - 1 - (e + k + 1)) * d ^ (e + k + 1)
  | 0, hl => by
    have hs := pw_step (u := u) (d := d) h1 (by omega) hl
    have p := Int.mul_pos (Int.mul_pos (show 0 < u ^ (n - 1 - (e + 1)) by have := pow_pos1 h1 (n - 1 - (e + 1)); omega) (show 0 < d ^ e by have := pow_pos1 (show 1 ≤ d by omega) e; omega)) (show 0 < d - u by omega)
    have e2 : (u ^ (n - 1 - (e + 1)) * d ^ e) * (d - u) = - ((u ^ (n - 1 - (e + 1)) * d ^ e) * (u - d)) := by rw [← Int.mul_neg, Int.neg_sub]
    show _ < u ^ (n - 1 - (e + 1)) * d ^ (e + 1)
    omega
  | k + 1, hl => by
    have ih := pw_lt h1 h (n := n) (e := e) k (by omega)
    have hs := pw_step (u := u) (d := d) h1 (by omega) (n := n) (e := e + k + 1) (by omega)
    have p := Int.mul_pos (Int.mul_pos (show 0 < u ^ (n - 1 - (e + k + 1 + 1)) by have := pow_pos1 h1 (n - 1 - (e + k + 1 + 1)); omega) (show 0 < d ^ (e + k + 1) by have := pow_pos1 (show 1 ≤ d by omega) (e + k + 1); omega)) (show 0 < d - u by omega)
    have e2 : (u ^ (n - 1 - (e + k + 1 + 1)) * d ^ (e + k + 1)) * (d - u) = - ((u ^ (n - 1 - (e + k + 1 + 1)) * d ^ (e + k + 1)) * (u - d)) := by rw [← Int.mul_neg, Int.neg_sub]
    show _ < u ^ (n - 1 - (e + k + 1 + 1)) * d ^ (e + k + 1 + 1)
    omega
theorem pw_eq {u : Int} {n e l : Nat} (he : e < n) (hl : l < n) : u ^ (n - 1 - e) * u ^ e = u ^ (n - 1 - l) * u ^ l := by
  rw [← Int.pow_add, ← Int.pow_add, show n - 1 - e + e = n - 1 - l + l by omega]
/-- the flow of one who draws in round e -/
theorem flow_worth {up down stake : Int} {n e : Nat} (he : e < n) : worthG up down ((List.replicate n (-stake)).set e (-stake + stake * n)) 0 1 = worthG up down (List.replicate n (-stake)) 0 1 + stake * n * (up ^ (n - 1 - e) * down ^ e) := by
  rw [worth_set up down (stake * n) (List.replicate n (-stake)) e (-stake) 0 1 (by rw [List.getElem?_replicate, if_pos he]), List.length_replicate, Int.mul_one]
variable {P : Program} {w : World} {K : PySem.W.Frag} {mg : Str → Option Value} {base : Heap}
def spLaw (K : PySem.W.Frag) : Sp := fun vs H Q _ => ∃ (a : Addr) (ns : List Int), vs = [.ref a] ∧ SqL K H a (ns.map V.int) ∧ ns.length ≤ 63 ∧ ∀ H', Q (.bl true) H'
theorem rep_map {n : Nat} {x : Int} : List.replicate n (V.int x) = (List.replicate n x).map V.int := by rw [List.map_replicate]
theorem flow_bound {n e : Nat} {stake : Int} (h1 : 1 ≤ stake) (h2 : stake ≤ 1000000) (hn : n ≤ 20) : ∀ x ∈ (List.replicate n (-stake)).set e (-stake + stake * n), x.natAbs < 2 ^ 64 := fun x hx => by
  have m1 := Int.mul_nonneg (show 0 ≤ stake by omega) (show 0 ≤ (n : Int) by omega)
  have m2 := Int.mul_le_mul h2 (show (n : Int) ≤ 20 by omega) (by omega) (by omega)
  rcases List.mem_or_eq_of_mem_set hx with h | h
  · obtain ⟨_, rfl⟩ := List.mem_replicate.mp h
    omega
  · omega
theorem ok_law {f : Addr} {fd : FuncData} (F : Fun K "law" "law" s_law f fd) (T : Top K mg) : FnOk P w K mg base CX0 2 f fd ["_law_script"] (spLaw K) := by
  have nd := sc_law.nd
  have G__law_draws : FnOk P w K mg base CX0 1 T.f__law_draws T.fd__law_draws ["_law_script", "_law_many"] (spDraws K) := ok__law_draws T.F__law_draws T
  have G_worth : FnOk P w K mg base CX0 1 T.f_worth T.fd_worth ["row", "up", "down"] (spWorth K) := ok_worth T.F_worth T
  have G__law_whole : FnOk P w K mg base CX0 1 T.f__law_whole T.fd__law_whole ["_law_told"] spWhole := ok__law_whole T.F__law_whole T
  refine F.ok sc_law (fun vs H Q E h => ?_) (fun cdv A outer s H vs Q E hr h => ?_)
  · obtain ⟨a, ns, rfl, _⟩ := h
    rfl
  · obtain ⟨a, ns, rfl, hS, hlen, q⟩ := h
    refine ⟨_, (pss_cons (ps_set (i := 1) nd rfl (.inl rfl) (pe_call G__law_draws (hr.mono (by decide)) (by rfl) T.m__law_draws T.F__law_draws.kp T.b__law_draws .nil pass0 (pa_cons (pv 0) (pa_cons pe_int pa_nil))))
      (pss_cons (ps_set (i := 2) nd rfl (.inl rfl) (pe_op op_add pe_int (pe_op op_mod (pe_ix ix_list (pv 1) pe_int (fun _ _ => rfl)) pe_int)))
      (pss_cons (ps_set (i := 3) nd rfl (.inl rfl) (pe_op op_add pe_int (pe_op op_mod (pe_ix ix_list (pv 1) pe_int (fun _ _ => rfl)) pe_int)))
      (pss_cons (ps_set (i := 4) nd rfl (.inl rfl) (pe_op op_mod (pe_ix ix_list (pv 1) pe_int (fun _ _ => rfl)) (pe_op op_sub (pv 2) pe_int)))
      (pss_cons (ps_set (i := 5) nd rfl (.inl rfl) (pe_op op_add (pe_op op_add (pv 4) pe_int) (pe_op op_mod (pe_ix ix_list (pv 1) pe_int (fun _ _ => rfl)) (pe_op op_sub (pe_op op_sub (pv 2) pe_int) (pv 4)))))
      (pss_cons (ps_set (i := 6) nd rfl (.inl rfl) (pe_op op_add pe_int (pe_op op_mod (pe_ix ix_list (pv 1) pe_int (fun _ _ => rfl)) pe_int)))
      (pss_cons (ps_set (i := 7) nd rfl (.inl rfl) (pe_op op_add pe_int (pe_op op_mod (pe_ix ix_list (pv 1) pe_int (fun _ _ => rfl)) pe_int)))
      (pss_cut (ps_if (pt_cmpR op_eq (pe_op op_mod (pe_ix ix_list (pv 1) pe_int (fun _ _ => rfl)) pe_int) pe_int (nomark _))
        (pss_one (ps_set (i := 7) nd rfl (.inl rfl) (pv 6)))
        pss_nil)
      (pss_cut (ps_if (pt_cmpR op_eq (pe_op op_mod (pe_ix ix_list (pv 1) pe_int (fun _ _ => rfl)) pe_int) pe_int (nomark _))
        (pss_one (ps_set (i := 7) nd rfl (.inl rfl) (pe_callB (call_min2 rfl) (by rfl) T.m_min (by decide +kernel) (pa_cons pe_int (pa_cons (pe_op op_add (pv 6) pe_int) pa_nil)))))
        pss_nil)
      (pss_cons (ps_set (i := 8) nd rfl (.inl rfl) (pe_op op_rep (pe_lst (pa_cons (pe_un un_neg (pv 3)) pa_nil)) (pv 2)))
      (pss_cons (ps_augS (pv 8) (pv 4) get_list (pe_op op_mul (pv 3) (pv 2)) ip_add set_list)
      (pss_cons (ps_set (i := 9) nd rfl (.inl rfl) (pe_op op_rep (pe_lst (pa_cons (pe_un un_neg (pv 3)) pa_nil)) (pv 2)))
      (pss_cons (ps_augS (pv 9) (pv 5) get_list (pe_op op_mul (pv 3) (pv 2)) ip_add set_list)
      (pss_cons (ps_set (i := 10) nd rfl (.inl rfl) (pe_call G_worth (hr.mono (by decide)) (by rfl) T.m_worth T.F_worth.kp T.b_worth .nil pass0 (pa_cons (pv 8) (pa_cons (pv 6) (pa_cons (pv 7) pa_nil)))))
      (pss_cons (ps_set (i := 11) nd rfl (.inl rfl) (pe_call G_worth (hr.mono (by decide)) (by rfl) T.m_worth T.F_worth.kp T.b_worth .nil pass0 (pa_cons (pv 9) (pa_cons (pv 6) (pa_cons (pv 7) pa_nil)))))
      (pss_cons (ps_if (PW.pt (pw_or (pt_not (pt_val (pe_call G__law_whole (hr.mono (by decide)) (by rfl) T.m__law_whole T.F__law_whole.kp T.b__law_whole .nil pass0 (pa_cons (pv 10) pa_nil)))) (pw_or1 (pt_not (pt_val (pe_call G__law_whole (hr.mono (by decide)) (by rfl) T.m__law_whole T.F__law_whole.kp T.b__law_whole .nil pass0 (pa_cons (pv 11) pa_nil)))))))
        (pss_one (ps_ret pe_bl))
        pss_nil)
      (pss_cons (ps_if (pt_cmpR op_gt (pv 6) (pv 7) (nomark _))
        (pss_one (ps_ret (pe_cmpR op_gt (pv 10) (pv 11) (nomark _))))
        pss_nil)
      (pss_cons (ps_if (pt_cmpR op_lt (pv 6) (pv 7) (nomark _))
        (pss_one (ps_ret (pe_cmpR op_lt (pv 10) (pv 11) (nomark _))))
        pss_nil)
      (pss_one (ps_ret (pe_cmpR op_eq (pv 10) (pv 11) (nomark _)))))))))))))))))))))), ?_⟩
    refine q_callN (by walk_at "ea") (spN_draws (m := 8) hS hlen (by decide)) ?_
    rintro _ p H1 ⟨rows, hR, rfl⟩ hp e1 h1
    have hl := hR.1
    have hs := sq_of (K := K) h1
    refine q_asg (by walk_at "ev") fun H2 e2 => ?_
    have hs := ex_l e2 hs
    refine q_asg (by walk_at "ev") fun H3 e3 => ?_
    have hs := ex_l e3 hs
    obtain ⟨n, hn⟩ : ∃ n : Nat, 2 + rows.getD (Int.toNat 0) 0 % 19 = (n : Int) := ⟨(2 + rows.getD (Int.toNat 0) 0 % 19).toNat, by omega⟩
    have hn2 : 2 ≤ n ∧ n ≤ 20 := by omega
    rw [hn]
    clear hn
    obtain ⟨stake, hstake, s1, s2⟩ : ∃ stake, 1 + rows.getD (Int.toNat 1) 0 % 1000000 = stake ∧ 1 ≤ stake ∧ stake ≤ 1000000 := ⟨_, rfl, by omega, by omega⟩
    rw [hstake]
    clear hstake
    -- early, late
    refine q_asg (by walk_at "ev") fun H4 e4 => ?_
    have hs := ex_l e4 hs
    have a1 := Int.emod_nonneg (rows.getD (Int.toNat 2) 0) (show (n : Int) - 1 ≠ 0 by omega)
    have a2 := Int.emod_lt_of_pos (rows.getD (Int.toNat 2) 0) (show 0 < (n : Int) - 1 by omega)
    obtain ⟨e, he⟩ : ∃ e : Nat, rows.getD (Int.toNat 2) 0 % ((n : Int) - 1) = (e : Int) := ⟨(rows.getD (Int.toNat 2) 0 % ((n : Int) - 1)).toNat, by omega⟩
    rw [he] at a1 a2 ⊢
    clear he
    refine q_asg (by walk_at "ev") fun H5 e5 => ?_
    have hs := ex_l e5 hs
    have a3 := Int.emod_nonneg (rows.getD (Int.toNat 3) 0) (show (n : Int) - 1 - e ≠ 0 by omega)
    have a4 := Int.emod_lt_of_pos (rows.getD (Int.toNat 3) 0) (show 0 < (n : Int) - 1 - e by omega)
    obtain ⟨k, hk⟩ : ∃ k : Nat, rows.getD (Int.toNat 3) 0 % ((n : Int) - 1 - e) = (k : Int) := ⟨(rows.getD (Int.toNat 3) 0 % ((n : Int) - 1 - e)).toNat, by omega⟩
    rw [hk] at a3 a4 ⊢
    clear hk
    -- up, down
    refine q_asg (by walk_at "ev") fun H6 e6 => ?_
    have hs := ex_l e6 hs
    obtain ⟨up, hup, u1, u2⟩ : ∃ up, 1 + rows.getD (Int.toNat 4) 0 % 1000 = up ∧ 1 ≤ up ∧ up ≤ 1000 := ⟨_, rfl, by omega, by omega⟩
    rw [hup]
    clear hup
    refine q_asg (by walk_at "ev") fun H7 e7 => ?_
    have hs := ex_l e7 hs
    refine q_cut (M := fun σ' H' => ∃ down : Int, σ' = [some (.ref a), some (.ref p), some (.int n), some (.int stake), some (.int e), some (.int ((e : Int) + 1 + k)), some (.int up), some (.int down), none, none, none, none] ∧ 1 ≤ down ∧ down ≤ 1000 ∧ SqL K H' p (rows.map V.int)) ?_ ?_
    · refine s_when (by walk_at "et") (fun _ H8 e8 => ?_) (fun _ H8 e8 => ?_)
      · have hs := ex_l e8 hs
        refine s_asg (by walk_at "ev") fun H9 e9 => ?_
        exact ⟨_, rfl, by omega, by omega, ex_l e9 hs⟩
      · exact ⟨_, rfl, by omega, by omega, ex_l e8 hs⟩
    rintro _ H8 ⟨down, rfl, d1, d2, hs⟩
    refine q_cut (M := fun σ' H' => ∃ down : Int, σ' = [some (.ref a), some (.ref p), some (.int n), some (.int stake), some (.int e), some (.int ((e : Int) + 1 + k)), some (.int up), some (.int down), none, none, none, none] ∧ 1 ≤ down ∧ down ≤ 1000) ?_ ?_
    · refine s_when (by walk_at "et") (fun _ H8 e8 => ?_) (fun _ H8 e8 => ?_)
      · have hs := ex_l e8 hs
        refine s_asg (by walk_at "ev") fun H9 e9 => ?_
        exact ⟨_, rfl, by split <;> omega, by split <;> omega⟩
      · exact ⟨_, rfl, by omega, by omega⟩
    rintro _ H9 ⟨down, rfl, d1, d2⟩
    -- one
    refine q_asgL (by (apply el_rep1); (exact el_lst (by walk_at "ea") (by show 1 ≤ 100000; decide)); (walk_at "ev"); omega; omega) fun q1 H10 hq1 e10 h10 => ?_
    rw [Int.toNat_natCast, rep_map] at h10
    refine q_augL (j := e) h10 (by walk_at "ev") (by walk_at "ev") rfl (by rw [List.getElem?_map, List.getElem?_replicate, if_pos (by omega)]; rfl) (by walk_at "ev") fun H11 e11 => ?_
    have h12 : (upd H11 q1 (.lst (((List.replicate n (-stake)).map V.int).set e (.int (-stake + stake * n))))) q1 = some (.lst (((List.replicate n (-stake)).set e (-stake + stake * n)).map V.int)) := by rw [upd_same, List.map_set]
    generalize upd H11 q1 (.lst (((List.replicate n (-stake)).map V.int).set e (.int (-stake + stake * n)))) = H12 at h12 ⊢
    -- other
    refine q_asgL (by (apply el_rep1); (exact el_lst (by walk_at "ea") (by show 1 ≤ 100000; decide)); (walk_at "ev"); omega; omega) fun q2 H13 hq2 e13 h13 => ?_
    rw [Int.toNat_natCast, rep_map] at h13
    have h14 := ex_g e13 h12
    have hne : q1 ≠ q2 := ne_of_none h12 hq2
    refine q_augL (j := e + 1 + k) h13 (by walk_at "ev") (by walk_at "ev") (by omega) (by rw [List.getElem?_map, List.getElem?_replicate, if_pos (by omega)]; rfl) (by walk_at "ev") fun H15 e15 => ?_
    have h16 : (upd H15 q2 (.lst (((List.replicate n (-stake)).map V.int).set (e + 1 + k) (.int (-stake + stake * n))))) q2 = some (.lst (((List.replicate n (-stake)).set (e + 1 + k) (-stake + stake * n)).map V.int)) := by rw [upd_same, List.map_set]
    have h17 : (upd H15 q2 (.lst (((List.replicate n (-stake)).map V.int).set (e + 1 + k) (.int (-stake + stake * n))))) q1 = some (.lst (((List.replicate n (-stake)).set e (-stake + stake * n)).map V.int)) := by
      rw [upd_ne hne]
      exact ex_g e15 h14
    generalize upd H15 q2 (.lst (((List.replicate n (-stake)).map V.int).set (e + 1 + k) (.int (-stake + stake * n)))) = H16 at h16 h17 ⊢
    -- worth
    refine q_asg (by (apply ev_call); (walk_at "ea"); exact spV_worth (sq_of h17) (by rw [List.length_set, List.length_replicate]; omega) (flow_bound s1 s2 (by omega)) u1 u2 d1 d2) fun H18 e18 => ?_
    have h16 := ex_g e18 h16
    refine q_asg (by (apply ev_call); (walk_at "ea"); exact spV_worth (sq_of h16) (by rw [List.length_set, List.length_replicate]; omega) (flow_bound s1 s2 (by omega)) u1 u2 d1 d2) fun H19 e19 => ?_
    rw [flow_worth (by omega), flow_worth (by omega)]
    have hpot := Int.mul_pos (show 0 < stake by omega) (show 0 < (n : Int) by omega)
    -- tests
    refine q_when (b := false) ?_ (fun h => by cases h) fun _ H20 e20 => ?_
    · refine et_is (et_or (et_not (et_B (by (apply ev_call); (walk_at "ea"); exact spV_whole))) (fun _ => et_not (et_B (by (apply ev_call); (walk_at "ea"); exact spV_whole)))) rfl
    refine q_when (by walk_at "et") (fun hb H21 e21 => ?_) (fun hb H21 e21 => ?_)
    · refine s_ret (v := .bl true) (ev_is (by walk_at "ev") ?_) fun H22 e22 => q H22
      have h := pw_gt d1 (of_decide_eq_true hb) (n := n) (e := e) k (by omega)
      have h2 := Int.mul_lt_mul_of_pos_left h hpot
      rw [show e + k + 1 = e + 1 + k by omega] at h2
      rw [decide_eq_true (by omega)]
    refine q_when (by walk_at "et") (fun hb H22 e22 => ?_) (fun hb2 H22 e22 => ?_)
    · refine s_ret (v := .bl true) (ev_is (by walk_at "ev") ?_) fun H22 e22 => q H22
      have h := pw_lt u1 (of_decide_eq_true hb) (n := n) (e := e) k (by omega)
      have h2 := Int.mul_lt_mul_of_pos_left h hpot
      rw [show e + k + 1 = e + 1 + k by omega] at h2
      rw [decide_eq_true (by omega)]
    have e0 : up = down := by
      have := of_decide_eq_false hb
      have := of_decide_eq_false hb2
      omega
    subst e0
    refine s_ret (v := .bl true) (ev_is (by walk_at "ev") ?_) fun H22 e22 => q H22
    rw [pw_eq (u := up) (n := n) (e := e) (l := e + 1 + k) (by omega) (by omega), decide_eq_true rfl]
end

end Su
namespace Su
def top_mk {K : PySem.W.Frag} {h : Heap} {mg : Str → Option Value} (X : K.In h) (G : h.Ns mainGlobals mg)
    {od0 an0 : Option Addr} {sl0 : Array (Option Value)} {oc0 kV0 dc0 pm0 cd0 ct0 : Value} {f0 : Addr}
    (a0 : PySem.W.nsIn K mainGlobals "worth" = some (some (.ref f0))) (l0 : K.lookup f0 = some ⟨oc0, od0, .func (PySem.W.fnOf "worth" "worth" (defArgs s_worth) (defBody s_worth) (defScope s_worth) .none kV0 dc0 pm0 an0 cd0 ct0), sl0⟩) (c0 : PySem.W.codeIn K cd0 "worth" = true) (k0 : PySem.W.keepIn K (.ref f0) = true)
    {od1 an1 : Option Addr} {sl1 : Array (Option Value)} {oc1 kV1 dc1 pm1 cd1 ct1 : Value} {f1 : Addr}
    (a1 : PySem.W.nsIn K mainGlobals "_law_draws" = some (some (.ref f1))) (l1 : K.lookup f1 = some ⟨oc1, od1, .func (PySem.W.fnOf "_law_draws" "_law_draws" (defArgs s__law_draws) (defBody s__law_draws) (defScope s__law_draws) .none kV1 dc1 pm1 an1 cd1 ct1), sl1⟩) (c1 : PySem.W.codeIn K cd1 "_law_draws" = true) (k1 : PySem.W.keepIn K (.ref f1) = true)
    {od2 an2 : Option Addr} {sl2 : Array (Option Value)} {oc2 kV2 dc2 pm2 cd2 ct2 : Value} {f2 : Addr}
    (a2 : PySem.W.nsIn K mainGlobals "_law_whole" = some (some (.ref f2))) (l2 : K.lookup f2 = some ⟨oc2, od2, .func (PySem.W.fnOf "_law_whole" "_law_whole" (defArgs s__law_whole) (defBody s__law_whole) (defScope s__law_whole) .none kV2 dc2 pm2 an2 cd2 ct2), sl2⟩) (c2 : PySem.W.codeIn K cd2 "_law_whole" = true) (k2 : PySem.W.keepIn K (.ref f2) = true)
    {od3 an3 : Option Addr} {sl3 : Array (Option Value)} {oc3 kV3 dc3 pm3 cd3 ct3 : Value} {f3 : Addr}
    (a3 : PySem.W.nsIn K mainGlobals "law" = some (some (.ref f3))) (l3 : K.lookup f3 = some ⟨oc3, od3, .func (PySem.W.fnOf "law" "law" (defArgs s_law) (defBody s_law) (defScope s_law) .none kV3 dc3 pm3 an3 cd3 ct3), sl3⟩) (c3 : PySem.W.codeIn K cd3 "law" = true) (k3 : PySem.W.keepIn K (.ref f3) = true)
    (z0 : PySem.W.nsIn K mainGlobals "abs" = some none)
    (z1 : PySem.W.nsIn K mainGlobals "bool" = some none)
    (z2 : PySem.W.nsIn K mainGlobals "int" = some none)
    (z3 : PySem.W.nsIn K mainGlobals "isinstance" = some none)
    (z4 : PySem.W.nsIn K mainGlobals "len" = some none)
    (z5 : PySem.W.nsIn K mainGlobals "min" = some none)
    {tk0 : Tok} (n0 : PySem.W.nsIn K mainGlobals "MOST_TIMES" = some (some (.int 1000 tk0))) : Top K mg where
      f_worth := f0
      fd_worth := _
      F_worth := fun_mk (st := s_worth) l0 c0 k0
      b_worth := (fun_mk (st := s_worth) l0 c0 k0).binds (ps := ["row", "up", "down"]) (fun _ _ _ _ _ _ us hl => match us, hl with | [_, _, _], _ => rfl)
      m_worth := PySem.W.mg_of X G a0
      f__law_draws := f1
      fd__law_draws := _
      F__law_draws := fun_mk (st := s__law_draws) l1 c1 k1
      b__law_draws := (fun_mk (st := s__law_draws) l1 c1 k1).binds (ps := ["_law_script", "_law_many"]) (fun _ _ _ _ _ _ us hl => match us, hl with | [_, _], _ => rfl)
      m__law_draws := PySem.W.mg_of X G a1
      f__law_whole := f2
      fd__law_whole := _
      F__law_whole := fun_mk (st := s__law_whole) l2 c2 k2
      b__law_whole := (fun_mk (st := s__law_whole) l2 c2 k2).binds (ps := ["_law_told"]) (fun _ _ _ _ _ _ us hl => match us, hl with | [_], _ => rfl)
      m__law_whole := PySem.W.mg_of X G a2
      f_law := f3
      fd_law := _
      F_law := fun_mk (st := s_law) l3 c3 k3
      b_law := (fun_mk (st := s_law) l3 c3 k3).binds (ps := ["_law_script"]) (fun _ _ _ _ _ _ us hl => match us, hl with | [_], _ => rfl)
      m_law := PySem.W.mg_of X G a3
      m_abs := PySem.W.mg_none_of X G z0
      m_bool := PySem.W.mg_none_of X G z1
      m_int := PySem.W.mg_none_of X G z2
      m_isinstance := PySem.W.mg_none_of X G z3
      m_len := PySem.W.mg_none_of X G z4
      m_min := PySem.W.mg_none_of X G z5
      t_MOST_TIMES := tk0
      m_MOST_TIMES := PySem.W.mg_of X G n0
theorem all_mk {l : PySem.W.OpenLaw} {w : World} {K : PySem.W.Frag} {h : Heap} {mg : Str → Option Value} {fa : Addr} (X : K.In h) (G : h.Ns mainGlobals mg) (hfa : mg "law" = some (.ref fa))
    {od0 an0 : Option Addr} {sl0 : Array (Option Value)} {oc0 kV0 dc0 pm0 cd0 ct0 : Value} {f0 : Addr}
    (a0 : PySem.W.nsIn K mainGlobals "worth" = some (some (.ref f0))) (l0 : K.lookup f0 = some ⟨oc0, od0, .func (PySem.W.fnOf "worth" "worth" (defArgs s_worth) (defBody s_worth) (defScope s_worth) .none kV0 dc0 pm0 an0 cd0 ct0), sl0⟩) (c0 : PySem.W.codeIn K cd0 "worth" = true) (k0 : PySem.W.keepIn K (.ref f0) = true)
    {od1 an1 : Option Addr} {sl1 : Array (Option Value)} {oc1 kV1 dc1 pm1 cd1 ct1 : Value} {f1 : Addr}
    (a1 : PySem.W.nsIn K mainGlobals "_law_draws" = some (some (.ref f1))) (l1 : K.lookup f1 = some ⟨oc1, od1, .func (PySem.W.fnOf "_law_draws" "_law_draws" (defArgs s__law_draws) (defBody s__law_draws) (defScope s__law_draws) .none kV1 dc1 pm1 an1 cd1 ct1), sl1⟩) (c1 : PySem.W.codeIn K cd1 "_law_draws" = true) (k1 : PySem.W.keepIn K (.ref f1) = true)
    {od2 an2 : Option Addr} {sl2 : Array (Option Value)} {oc2 kV2 dc2 pm2 cd2 ct2 : Value} {f2 : Addr}
    (a2 : PySem.W.nsIn K mainGlobals "_law_whole" = some (some (.ref f2))) (l2 : K.lookup f2 = some ⟨oc2, od2, .func (PySem.W.fnOf "_law_whole" "_law_whole" (defArgs s__law_whole) (defBody s__law_whole) (defScope s__law_whole) .none kV2 dc2 pm2 an2 cd2 ct2), sl2⟩) (c2 : PySem.W.codeIn K cd2 "_law_whole" = true) (k2 : PySem.W.keepIn K (.ref f2) = true)
    {od3 an3 : Option Addr} {sl3 : Array (Option Value)} {oc3 kV3 dc3 pm3 cd3 ct3 : Value} {f3 : Addr}
    (a3 : PySem.W.nsIn K mainGlobals "law" = some (some (.ref f3))) (l3 : K.lookup f3 = some ⟨oc3, od3, .func (PySem.W.fnOf "law" "law" (defArgs s_law) (defBody s_law) (defScope s_law) .none kV3 dc3 pm3 an3 cd3 ct3), sl3⟩) (c3 : PySem.W.codeIn K cd3 "law" = true) (k3 : PySem.W.keepIn K (.ref f3) = true)
    (z0 : PySem.W.nsIn K mainGlobals "abs" = some none)
    (z1 : PySem.W.nsIn K mainGlobals "bool" = some none)
    (z2 : PySem.W.nsIn K mainGlobals "int" = some none)
    (z3 : PySem.W.nsIn K mainGlobals "isinstance" = some none)
    (z4 : PySem.W.nsIn K mainGlobals "len" = some none)
    (z5 : PySem.W.nsIn K mainGlobals "min" = some none)
    {tk0 : Tok} (n0 : PySem.W.nsIn K mainGlobals "MOST_TIMES" = some (some (.int 1000 tk0))) :
    ∃ fd : FuncData, (∀ (s : Shared) (v : Value), BindsTo s fd ⟨[v], []⟩ [("_law_script", v)]) ∧ ∀ base : Heap, K.In base → base.Ns mainGlobals mg → FnOk l.prog w K mg base CX0 2 fa fd ["_law_script"] (spLaw K) := by
  have e := hfa.symm.trans (PySem.W.mg_of X G a3)
  cases e
  exact ⟨PySem.W.fnOf "law" "law" (defArgs s_law) (defBody s_law) (defScope s_law) .none kV3 dc3 pm3 an3 cd3 ct3, fun s v => .of_eq rfl, fun base _ _ => ok_law (fun_mk (st := s_law) l3 c3 k3) (top_mk X G a0 l0 c0 k0 a1 l1 c1 k1 a2 l2 c2 k2 a3 l3 c3 k3 z0 z1 z2 z3 z4 z5 n0)⟩
end Su
open PySem PySem.W PyProof.Rows
set_option maxHeartbeats 0 in
theorem PySem.Challenge.cw_susu_k19_worth_of_early_draws_holds : PySem.Challenge.rw_susu_k19_worth_of_early_draws.Holds := by
  w_on; o_law; k_head; (case hw => w_witness2)
  k_fill
  refine L2.walk_of (l := PySem.Challenge.rw_susu_k19_worth_of_early_draws) (n := 63) (k := 2) (x := "_law_script") (CX := fun _ => L2.CX0) (sp := fun w => Su.spLaw _) rfl (by decide) rfl ⟨rfl, by decide, by decide⟩ (fun w h Y => PySem.W.kIn_of Y) ?F (fun _ _ a ns hl _ hS => ⟨a, ns, rfl, hS, hl, fun _ => rfl⟩) (fun _ _ _ _ _ h => h)
  case F =>
    intro w mg fa h KX G hmg
    refine' Su.all_mk KX G hmg ?a0 ?l0 ?c0 ?k0 ?a1 ?l1 ?c1 ?k1 ?a2 ?l2 ?c2 ?k2 ?a3 ?l3 ?c3 ?k3 ?z0 ?z1 ?z2 ?z3 ?z4 ?z5 ?n0
    (case a0 => k_is); (case l0 => k_is); (case c0 => k_is); (case k0 => k_is); (case a1 => k_is); (case l1 => k_is); (case c1 => k_is); (case k1 => k_is); (case a2 => k_is); (case l2 => k_is); (case c2 => k_is); (case k2 => k_is); (case a3 => k_is); (case l3 => k_is); (case c3 => k_is); (case k3 => k_is); (case z0 => k_is); (case z1 => k_is); (case z2 => k_is); (case z3 => k_is); (case z4 => k_is); (case z5 => k_is); (case n0 => k_is)

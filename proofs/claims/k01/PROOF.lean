import PyProof.Rows.All
import Wide.All
import OpenK.AllK
import Wide.FinOn
import HandS.ForList
import HandS.Evl
import HandS.IsInst
import HandS.Wide
import PySem.Challenge.RW_susu_k01_first_covered_round
set_option Elab.async false
set_option linter.all false
set_option maxRecDepth 100000

namespace Su
open PySem PySem.Spec PyProof.Rows L2 Evl
/-! ### small rules over HandS.Evl -/
theorem CMul.l {i j : Int} (h1 : -(2 ^ 64) < i) (h2 : i < 2 ^ 64) : CMul i j := .inl ⟨h1, h2⟩
theorem CMul.r {i j : Int} (h1 : -(2 ^ 64) < j) (h2 : j < 2 ^ 64) : CMul i j := .inr ⟨h1, h2⟩
theorem rv_mod {H : Hp} {i j : Int} (h : 0 < j) : RV (rI (fun _ j => 0 < j) fun i j => .int (i % j)) (.int i) (.int j) H (.int (i % j)) := rv_I h
theorem rv_div {H : Hp} {i j : Int} (h : 0 < j) (h2 : j < 1073741824) : RV (rI CDiv fun i j => .int (i / j)) (.int i) (.int j) H (.int (i / j)) := rv_I ⟨h, h2⟩
theorem rv_mul {H : Hp} {i j : Int} (h : CMul i j) : RV (rI CMul fun i j => .int (i * j)) (.int i) (.int j) H (.int (i * j)) := rv_I h
theorem rv_pow {H : Hp} {i j : Int} (h : CPow i j) : RV (rI CPow fun i j => .int (i ^ j.toNat)) (.int i) (.int j) H (.int (i ^ j.toNat)) := rv_I h
theorem rv_p18 {H : Hp} : RV (rI CPow fun i j => .int (i ^ j.toNat)) (.int 10) (.int 18) H (.int (10 ^ 18)) := rv_I (C := CPow) (g := fun i j => .int (i ^ j.toNat)) ⟨by decide, by decide, by decide⟩
theorem rv_p12 {H : Hp} : RV (rI CPow fun i j => .int (i ^ j.toNat)) (.int 10) (.int 12) H (.int (10 ^ 12)) := rv_I (C := CPow) (g := fun i j => .int (i ^ j.toNat)) ⟨by decide, by decide, by decide⟩
theorem rv_p20 {H : Hp} : RV (rI CPow fun i j => .int (i ^ j.toNat)) (.int 10) (.int 20) H (.int (10 ^ 20)) := rv_I (C := CPow) (g := fun i j => .int (i ^ j.toNat)) ⟨by decide, by decide, by decide⟩
theorem rv_divW {H : Hp} {i j : Int} (h : CDivW i j) : RV (rI CDivW fun i j => .int (i / j)) (.int i) (.int j) H (.int (i / j)) := rv_I h
theorem rv_mulW {H : Hp} {i j : Int} (h : CMulW i j) : RV (rI CMulW fun i j => .int (i * j)) (.int i) (.int j) H (.int (i * j)) := rv_I h
theorem rc_abs {H : Hp} {i : Int} : RC (fun xs H Q => ∃ i, xs = [V.int i] ∧ Q (.int (if i < 0 then -i else i)) H) [.int i] H (.int (if i < 0 then -i else i)) := fun H1 _ _ q => ⟨i, rfl, q H1 (Ex.refl H1)⟩
theorem rc_max {H : Hp} {i j : Int} : RC (fun xs H Q => ∃ i j, xs = [V.int i, .int j] ∧ Q (.int (if j > i then j else i)) H) [.int i, .int j] H (.int (if j > i then j else i)) := fun H1 _ _ q => ⟨i, j, rfl, q H1 (Ex.refl H1)⟩
theorem rc_min {H : Hp} {i j : Int} : RC (fun xs H Q => ∃ i j, xs = [V.int i, .int j] ∧ Q (.int (if j < i then j else i)) H) [.int i, .int j] H (.int (if j < i then j else i)) := fun H1 _ _ q => ⟨i, j, rfl, q H1 (Ex.refl H1)⟩
theorem rc_len {K : PySem.W.Frag} {H : Hp} {p : Addr} {ys : List V} (h : SqL K H p ys ∨ SqT K H p ys) : RC (fun xs H Q => ∃ p ys, xs = [V.ref p] ∧ (SqL K H p ys ∨ SqT K H p ys) ∧ Q (.int ys.length) H) [.ref p] H (.int ys.length) :=
  fun H1 e _ q => ⟨p, ys, rfl, h.elim (fun h => .inl (ex_l e h)) (fun h => .inr (ex_t e h)), q H1 (Ex.refl H1)⟩
theorem rc_isi_int {K : PySem.W.Frag} {H : Hp} {i : Int} {n : String} {b : Bool} (h : kitB "int" n = some b) : RC (rIsi K) [.int i, .ty n] H (.bl b) :=
  fun H1 _ _ q => ⟨.int i, .ty n, .type "int", .type n, b, rfl, .ty n, .base (.int i), kit_ty h, q H1 (Ex.refl H1)⟩
theorem ex_g {H H' : Hp} {a : Addr} {o : HO} (e : Ex H H') (h : H a = some o) : H' a = some o := e a o h
theorem at_rows {rows : List Int} {z : Int} (h0 : 0 ≤ z) (h : z < rows.length) : atI (rows.map V.int) z = some (.int (rows.getD z.toNat 0)) := by
  have hz : z = ((z.toNat : Nat) : Int) := by omega
  have hl : z.toNat < rows.length := by omega
  refine at_of hz ?_
  rw [List.getElem?_map, List.getElem?_eq_getElem hl, List.getD_eq_getElem?_getD, List.getElem?_eq_getElem hl]
  rfl
theorem at4 {a b c d z : Int} (h0 : 0 ≤ z) (h : z < 4) : atI [V.int a, .int b, .int c, .int d] z = some (.int (if z = 0 then a else if z = 1 then b else if z = 2 then c else d)) := by
  have h4 : z = 0 ∨ z = 1 ∨ z = 2 ∨ z = 3 := by omega
  rcases h4 with rfl | rfl | rfl | rfl <;> rfl
theorem wm {i j : Int} (h1 : i.natAbs < 2 ^ 240) (h2 : j.natAbs < 2 ^ 240) : CMulW i j := wide_mul h1 h2 (by decide) (by decide) (by decide)
theorem wd {i j : Int} (h : 0 < j) (h2 : j.natAbs < 2 ^ 240) : CDivW i j := wide_div h h2 (by decide) (by decide)
theorem n400 {i : Int} {n : Int} (h1 : -n ≤ i) (h2 : i ≤ n) (h : n.toNat < 2 ^ 240) : i.natAbs < 2 ^ 240 := by omega
theorem n400' {i : Int} (h1 : -(10 ^ 70) ≤ i) (h2 : i ≤ 10 ^ 70) : i.natAbs < 2 ^ 240 := n400 h1 h2 (by decide)
theorem decT {p : Prop} [Decidable p] (h : p) {b : Bool} (e : decide p = b) : b = true := by rw [← e]; exact decide_eq_true h
abbrev vErr : List Value := [.type "ValueError", .type "Exception", .type "BaseException", .type "object"]
theorem ex_up {H : Hp} {p : Addr} {o' : HO} {H0 : Hp} (e : Ex H0 H) (hp : H0 p = none) : Ex H0 (upd H p o') := Ex.mut e hp
theorem seq_ne {K : PySem.W.Frag} {H H' : Hp} {a : Addr} {xs : List V} (e : Ex H H') (h : SqL K H a xs) : SqL K H' a xs := ex_l e h
/-- a def's call that hands back a new list of which something is known -/
def SpN (sp : Sp) (vs : List V) (H : Hp) (P : List V → Prop) : Prop := ∀ H1, Ex H H1 → ∀ Q : VK, (∀ xs p H2, P xs → H1 p = none → Ex H1 H2 → H2 p = some (.lst xs) → Q (.ref p) H2) → ∀ E : XK, sp vs H1 Q E
theorem q_callN {sp : Sp} {dvs vs : List V} {E : XK} {ta : TA} {σ : L2.St} {H : Hp} {i : Nat} {D : Ends} {tz : TS} {P : List V → Prop} (h : EvA ta σ H vs) (hs : SpN sp (vs ++ dvs) H P)
    (k : ∀ xs p H1, P xs → H p = none → Ex H H1 → H1 p = some (.lst xs) → tz D (σ.set i (some (.ref p))) H1) : tSeq (tAsg (tCall sp dvs E ta) (gName i)) tz D σ H :=
  h H (Ex.refl H) _ fun H1 e1 => hs H1 e1 _ (fun xs p H2 hP hp e2 h2 => k xs p H2 hP (fresh_back e1 hp) (e1.trans e2) h2) E
theorem s_callN {sp : Sp} {dvs vs : List V} {E : XK} {ta : TA} {σ : L2.St} {H : Hp} {i : Nat} {D : Ends} {P : List V → Prop} (h : EvA ta σ H vs) (hs : SpN sp (vs ++ dvs) H P)
    (k : ∀ xs p H1, P xs → H p = none → Ex H H1 → H1 p = some (.lst xs) → D.nx (σ.set i (some (.ref p))) H1) : tAsg (tCall sp dvs E ta) (gName i) D σ H :=
  h H (Ex.refl H) _ fun H1 e1 => hs H1 e1 _ (fun xs p H2 hP hp e2 h2 => k xs p H2 hP (fresh_back e1 hp) (e1.trans e2) h2) E
/-- .. whose first argument is a new list -/
theorem s_callN1 {sp : Sp} {dvs vs xs0 : List V} {E : XK} {te : TE} {tr : TA} {σ : L2.St} {H : Hp} {i : Nat} {D : Ends} {P : List V → Prop} (h1 : EvL te σ H xs0) (h2 : EvA tr σ H vs) (hs : ∀ p0 H1, Ex H H1 → H1 p0 = some (.lst xs0) → SpN sp (.ref p0 :: vs ++ dvs) H1 P)
    (k : ∀ xs p H1, P xs → H p = none → Ex H H1 → H1 p = some (.lst xs) → D.nx (σ.set i (some (.ref p))) H1) : tAsg (tCall sp dvs E (tCons te tr)) (gName i) D σ H :=
  h1 H (Ex.refl H) _ fun p0 H1 _ e1 hp0 => h2 H1 e1 _ fun H2 e2 => hs p0 H2 (e1.trans e2) (e2 _ _ hp0) H2 (Ex.refl H2) _ (fun xs p H3 hP hp e3 h3 => k xs p H3 hP (fresh_back (e1.trans e2) hp) ((e1.trans e2).trans e3) h3) E
theorem ev_callL {sp : Sp} {dvs vs xs0 : List V} {E : XK} {te : TE} {tr : TA} {σ : L2.St} {H : Hp} {z : V} (h1 : EvL te σ H xs0) (h2 : EvA tr σ H vs) (hs : ∀ p0 H1, Ex H H1 → H1 p0 = some (.lst xs0) → SpV sp (.ref p0 :: vs ++ dvs) H1 z) : Ev (tCall sp dvs E (tCons te tr)) σ H z := fun H0 e0 Q q =>
  h1 H0 e0 _ fun p0 H1 _ e1 hp0 => h2 H1 (e0.trans e1) _ fun H2 e2 => hs p0 H2 ((e0.trans e1).trans e2) (e2 _ _ hp0) H2 (Ex.refl H2) _ (fun H3 e3 => q H3 ((e1.trans e2).trans e3)) E
theorem cut_from (xs : List V) (k : Nat) : cutV xs (some (k : Int)) none = xs.drop k := by
  unfold cutV
  rw [HT.sIx_nat, HT.sIx_none]
  by_cases h : k ≤ xs.length
  · rw [Nat.min_eq_left h, List.take_of_length_le (by rw [List.length_drop]; omega)]
  · rw [Nat.min_eq_right (by omega), Nat.sub_self, List.take_zero, List.drop_of_length_le (by omega)]
theorem s_asgSub {l : Addr} {xs : List V} {z : Int} {j : Nat} {te ta tb : TE} {σ : L2.St} {H : Hp} {v : V} {D : Ends} (hl : H l = some (.lst xs)) (h : Ev te σ H v) (ho : Ev ta σ H (.ref l)) (hi : Ev tb σ H (.int z)) (hz : z = (j : Int)) (hj : j < xs.length)
    (k : ∀ H1, Ex H H1 → D.nx σ (upd H1 l (.lst (xs.set j v)))) : tAsg te (gSub ta tb rSetL) D σ H := s_setL hl h ho (hz ▸ hi) hj k
end Su
open PySem PySem.Spec PyProof.Rows L2 Evl Su
/-! ### small tactics: "ev" an expression, "et" a test, "ea" arguments, "rv" an operator, "rc" a built-in, "hc" a bound -/
local macro_rules | `(tactic| walk_at "hc") => `(tactic| first | assumption | omega | (exact Su.CMul.l (by omega) (by omega)) | (exact Su.CMul.r (by omega) (by omega)) | (exact Su.wm (Su.n400' (by omega) (by omega)) (Su.n400' (by omega) (by omega))) | (exact Su.wd (by omega) (Su.n400' (by omega) (by omega))) | decide)
local macro_rules | `(tactic| walk_at "rv") => `(tactic| first
  | (with_reducible exact rv_I0)
  | (with_reducible exact rv_eq rfl)
  | (with_reducible exact rv_ne rfl)
  | (with_reducible refine Su.rv_mod ?_; walk_at "hc")
  | (with_reducible refine Su.rv_div ?_ ?_ <;> walk_at "hc")
  | (with_reducible refine Su.rv_mul ?_; walk_at "hc")
  | exact Su.rv_p18
  | exact Su.rv_p12
  | exact Su.rv_p20
  | (with_reducible refine Su.rv_divW ?_; walk_at "hc")
  | (with_reducible refine Su.rv_mulW ?_; walk_at "hc")
  | (apply rv_ixL; (first | assumption | (exact sq_of (by assumption))); (first | (apply Su.at_rows <;> walk_at "hc") | rfl | assumption)))
local macro_rules | `(tactic| walk_at "rc") => `(tactic| first
  | exact Su.rc_abs
  | exact Su.rc_max
  | exact Su.rc_min
  | exact Su.rc_isi_int (b := true) (by decide +kernel)
  | exact Su.rc_isi_int (b := false) (by decide +kernel))
local macro_rules | `(tactic| walk_at "ea") => `(tactic| first
  | exact ea_nil
  | (apply ea_cons; (walk_at "ev"); (walk_at "ea")))
local macro_rules | `(tactic| walk_at "ev") => `(tactic| first
  | exact ev_c
  | exact ev_var rfl
  | (apply ev_op; (walk_at "ev"); (walk_at "ev"); (walk_at "rv"))
  | (apply ev_un; (walk_at "ev"); (exact ru_neg))
  | (apply ev_andV; (walk_at "ev"); (intro _; walk_at "ev"))
  | (apply ev_orV; (walk_at "ev"); (intro _; walk_at "ev"))
  | (apply ev_notV; (walk_at "ev"))
  | (apply ev_len; (walk_at "ev"); first | assumption | (exact sq_of (by assumption)))
  | (apply ev_cb; (walk_at "ea"); (walk_at "rc")))
local macro_rules | `(tactic| walk_at "et") => `(tactic| first
  | (apply et_and; (walk_at "et"); (intro _; walk_at "et"))
  | (apply et_or; (walk_at "et"); (intro _; walk_at "et"))
  | (apply et_not; (walk_at "et"))
  | (apply et_test; (walk_at "ev"))
  | (apply et_B; (walk_at "ev")))

open PySem PySem.Spec PyProof.Rows L2 Evl Su
namespace Su
def topS (i : Nat) : Stmt := PySem.Challenge.pw_susu_k01_first_covered_round.main.body.getD i (.Pass ⟨0, 0, 0, 0⟩)
abbrev s_first_covered : Stmt := topS 1
abbrev N_first_covered : List Str := ["stake", "seats", "pledge"]
theorem sc_first_covered : FnScope N_first_covered ["stake", "seats", "pledge"] (defScope s_first_covered) := ⟨rfl, rfl, rfl, by decide +kernel, rfl, by decide +kernel, by decide +kernel⟩
abbrev s__law_draws : Stmt := topS 3
abbrev N__law_draws : List Str := ["_law_script", "_law_many", "_law_rows", "_law_mix", "_law_cell", "_law_rest"]
theorem sc__law_draws : FnScope N__law_draws ["_law_script", "_law_many"] (defScope s__law_draws) := ⟨rfl, rfl, rfl, by decide +kernel, rfl, by decide +kernel, by decide +kernel⟩
abbrev s_law : Stmt := topS 4
abbrev N_law : List Str := ["_law_script", "_law_some", "_law_stake", "_law_seats", "_law_rest", "_law_pledge", "_law_told"]
theorem sc_law : FnScope N_law ["_law_script"] (defScope s_law) := ⟨rfl, rfl, rfl, by decide +kernel, rfl, by decide +kernel, by decide +kernel⟩
structure Top (K : PySem.W.Frag) (mg : Str → Option Value) where
  f_first_covered : Addr
  fd_first_covered : FuncData
  F_first_covered : Fun K "first_covered" "first_covered" s_first_covered f_first_covered fd_first_covered
  b_first_covered : Binds K fd_first_covered ["stake", "seats", "pledge"] []
  m_first_covered : mg "first_covered" = some (.ref f_first_covered)
  f__law_draws : Addr
  fd__law_draws : FuncData
  F__law_draws : Fun K "_law_draws" "_law_draws" s__law_draws f__law_draws fd__law_draws
  b__law_draws : Binds K fd__law_draws ["_law_script", "_law_many"] []
  m__law_draws : mg "_law_draws" = some (.ref f__law_draws)
  f_law : Addr
  fd_law : FuncData
  F_law : Fun K "law" "law" s_law f_law fd_law
  b_law : Binds K fd_law ["_law_script"] []
  m_law : mg "law" = some (.ref f_law)
  m_abs : mg "abs" = none
  m_bool : mg "bool" = none
  m_int : mg "int" = none
  m_isinstance : mg "isinstance" = none
  m_len : mg "len" = none
  m_max : mg "max" = none
end Su
namespace Su
/-! ### rules whose written part is named, for blocks -/
section
variable {X : Cx} {K : PySem.W.Frag}
theorem ix_listK (h : X.K = K := by rfl) : IxR X (rIxL K) := h ▸ ix_list
theorem ix_tupK (h : X.K = K := by rfl) : IxR X (rIxT K) := h ▸ ix_tup
theorem call_len_seqK (h : X.K = K := by rfl) : CallR X (.builtin "len") (fun xs H Q => ∃ p ys, xs = [.ref p] ∧ (SqL K H p ys ∨ SqT K H p ys) ∧ Q (.int ys.length) H) := h ▸ call_len_seq
theorem op_in_seqK (h : X.K = K := by rfl) : OpR X (compareOp .In) (rIn K false) := h ▸ op_in_seq
theorem op_notIn_seqK (h : X.K = K := by rfl) : OpR X (compareOp .NotIn) (rIn K true) := h ▸ op_notIn_seq
theorem call_list_ofK (h : X.K = K := by rfl) : CallR X (.type "list") (fun xs H Q => ∃ p ys, xs = [.ref p] ∧ (SqL K H p ys ∨ SqT K H p ys) ∧ ∀ l, H l = none → Q (.ref l) (upd H l (.lst ys))) := h ▸ call_list_of
theorem call_isiK' (h : X.K = K := by rfl) : CallR X (.builtin "isinstance") (rIsi K) := h ▸ call_isi
end

end Su
namespace Su
/-! ### the drawn numbers -/
def Rows (m : Nat) (rows : List Int) : Prop := m ≤ rows.length ∧ rows.length ≤ m + 63 ∧ ∀ x ∈ rows, -(10 ^ 18) < x ∧ x < 10 ^ 18
theorem Rows.add {rows : List Int} {x : Int} (h : ∀ x ∈ rows, -(10 ^ 18) < x ∧ x < 10 ^ 18) (h1 : -(10 ^ 18) < x) (h2 : x < 10 ^ 18) : ∀ y ∈ rows ++ [x], -(10 ^ 18) < y ∧ y < 10 ^ 18 := fun y hy => by
  rcases List.mem_append.mp hy with h' | h'
  · exact h y h'
  · obtain rfl := List.mem_singleton.mp h'
    exact ⟨h1, h2⟩
theorem Rows.get {m : Nat} {rows : List Int} (h : Rows m rows) (i : Nat) : -(10 ^ 18) < rows.getD i 0 ∧ rows.getD i 0 < 10 ^ 18 := by
  by_cases hi : i < rows.length
  · rw [List.getD_eq_getElem?_getD, List.getElem?_eq_getElem hi]
    exact h.2.2 _ (List.getElem_mem hi)
  · rw [List.getD_eq_getElem?_getD, List.getElem?_eq_none (by omega)]
    decide
section
variable {P : Program} {w : World} {K : PySem.W.Frag} {mg : Str → Option Value} {base : Heap}
def spDraws (K : PySem.W.Frag) : Sp := fun vs H Q _ => ∃ (a : Addr) (ns : List Int) (m : Nat), vs = [.ref a, .int (m : Int)] ∧ SqL K H a (ns.map V.int) ∧ ns.length ≤ 63 ∧ m ≤ 1000 ∧
  ∀ rows H' p, H p = none → Ex H H' → H' p = some (.lst (rows.map V.int)) → Rows m rows → Q (.ref p) H'
theorem spN_draws {K : PySem.W.Frag} {a : Addr} {ns : List Int} {m : Nat} {H : Hp} (hS : SqL K H a (ns.map V.int)) (hl : ns.length ≤ 63) (hm : m ≤ 1000) : SpN (spDraws K) [.ref a, .int (m : Int)] H (fun xs => ∃ rows : List Int, Rows m rows ∧ xs = rows.map V.int) :=
  fun H1 e Q q E => ⟨a, ns, m, rfl, ex_l e hS, hl, hm, fun rows H' p hp e' h' hr => q _ p H' ⟨rows, hr, rfl⟩ hp e' h'⟩
def DrI (H0 : Hp) (a p : Addr) (m i : Nat) (σ : L2.St) (H : Hp) : Prop := ∃ (rows : List Int) (mix : Int) (y4 y5 : Option V), σ = [some (.ref a), some (.int (m : Int)), some (.ref p), some (.int mix), y4, y5] ∧ Ex H0 H ∧ H p = some (.lst (rows.map V.int)) ∧
  rows.length ≤ m + i ∧ 0 ≤ mix ∧ mix < 2147483647 ∧ ∀ x ∈ rows, -(10 ^ 18) < x ∧ x < 10 ^ 18
theorem ok__law_draws {f : Addr} {fd : FuncData} {k : Nat} (F : Fun K "_law_draws" "_law_draws" s__law_draws f fd) (T : Top K mg) : FnOk P w K mg base CX0 (k + 1) f fd ["_law_script", "_law_many"] (spDraws K) := by
  have nd := sc__law_draws.nd
  refine F.ok sc__law_draws (fun vs H Q E h => ?_) (fun cdv A outer s H vs Q E hr h => ?_)
  · obtain ⟨a, ns, m, rfl, _⟩ := h
    rfl
  · obtain ⟨a, ns, m, rfl, hS, hlen, hm, q⟩ := h
    refine ⟨_, (pss_cons (ps_set (i := 2) nd rfl (.inl rfl) (pe_lst pa_nil))
      (pss_cons (ps_set (i := 3) nd rfl (.inl rfl) pe_int)
      (pss_cons (ps_for PassesOwn.never rfl (pi_list (pv 0)) (pg_name (i := 4) nd rfl (.inl rfl))
        (pss_cons (ps_set (i := 3) nd rfl (.inl rfl) (pe_op op_mod (pe_op op_add (pe_op op_mul (pv 3) pe_int) (pv 4)) pe_int))
          (pss_cons (ps_set (i := 5) nd rfl (.inl rfl) (pe_callB call_abs (by rfl) T.m_abs (by decide +kernel) (pa_cons (pv 4) pa_nil)))
          (pss_cons (ps_if (pt_cmpR op_lt (pv 5) (pe_op op_pow pe_int pe_int) (nomark _))
            (pss_cons (ps_expr (pe_bm PySem.F.plainAttrs_list PySem.F.slot_list_append PySem.F.type_list_append mt_append (pv 2) (pa_cons (pv 4) pa_nil)))
              (pss_one (ps_set (i := 5) nd rfl (.inl rfl) pe_int)))
            pss_nil)
          (pss_one (ps_while PassesOwn.never (PW.pt (pw_and (pt_cmpR op_gt (pv 5) pe_int (nomark _)) (pw_and1 (pt_cmpR op_lt (pe_callB call_len_seq (by rfl) T.m_len PySem.boot_len (pa_cons (pv 2) pa_nil)) (pv 1) (nomark _)))))
            (pss_cons (ps_expr (pe_bm PySem.F.plainAttrs_list PySem.F.slot_list_append PySem.F.type_list_append mt_append (pv 2) (pa_cons (pe_op op_mod (pv 5) pe_int) pa_nil)))
              (pss_one (ps_set (i := 5) nd rfl (.inl rfl) (pe_op op_fdiv (pv 5) pe_int))))))))))
      (pss_cons (ps_while PassesOwn.never (pt_cmpR op_lt (pe_callB call_len_seq (by rfl) T.m_len PySem.boot_len (pa_cons (pv 2) pa_nil)) (pv 1) (nomark _))
        (pss_cons (ps_set (i := 3) nd rfl (.inl rfl) (pe_op op_mod (pe_op op_add (pe_op op_mul (pv 3) pe_int) pe_int) pe_int))
          (pss_one (ps_expr (pe_bm PySem.F.plainAttrs_list PySem.F.slot_list_append PySem.F.type_list_append mt_append (pv 2) (pa_cons (pe_op op_mod (pe_op op_mul (pv 3) (pv 3)) pe_int) pa_nil))))))
      (pss_one (ps_ret (pv 2))))))), ?_⟩
    -- rows = []; mix = 1
    refine q_asgL (el_lst ea_nil (by decide)) fun p H1 hp e1 h1 => ?_
    have hS1 := ex_l e1 hS
    refine q_asg (by walk_at "ev") fun H2 e2 => ?_
    refine q_forL (by walk_at "ev") (ex_l e2 hS1) (DrI H a p m) ?_ ?_ ?_ ?_
    · intro H3 e3
      exact ⟨[], 1, none, none, rfl, (e1.trans e2).trans e3, e3 p _ (e2 p _ h1), Nat.zero_le _, by omega, by omega, fun x hx => by cases hx⟩
    · rintro i σ' H' _ ⟨rows, mix, y4, y5, rfl, ex, _⟩
      exact ex_l ex hS
    · rintro i x σ' H' hx ⟨rows, mix, y4, y5, rfl, ex, hr', hrl, m0, m1, hb⟩
      obtain ⟨c, rfl⟩ : ∃ c : Int, x = .int c := by
        rw [List.getElem?_map] at hx
        cases hc : ns[i]? with
        | none => rw [hc] at hx; cases hx
        | some c => rw [hc] at hx; exact ⟨c, (Option.some.inj hx).symm⟩
      have hi : i < 63 := by
        have := (List.getElem?_eq_some_iff.mp hx).1
        rw [List.length_map] at this
        omega
      refine q_asg (by walk_at "ev") fun H3 e3 => ?_
      have m0' := Int.emod_nonneg (mix * 31 + c) (show (2147483647 : Int) ≠ 0 by decide)
      have m1' := Int.emod_lt_of_pos (mix * 31 + c) (show (0 : Int) < 2147483647 by decide)
      generalize (mix * 31 + c) % 2147483647 = mix' at m0' m1' ⊢
      refine q_asg (by walk_at "ev") fun H4 e4 => ?_
      have hr4 := ex_g e4 (ex_g e3 hr')
      have ex4 := (ex.trans e3).trans e4
      have r0 : 0 ≤ (if c < 0 then -c else c) := by split <;> omega
      have rc : (if c < 0 then -c else c) < 10 ^ 18 → -(10 ^ 18) < c ∧ c < 10 ^ 18 := by split <;> omega
      generalize (if c < 0 then -c else c) = rest at r0 rc ⊢
      -- what stands behind the if: the while
      have hwh : ∀ (rows' : List Int) (rest' : Int) (y4' : Option V) (H5 : Hp), Ex H H5 → H5 p = some (.lst (rows'.map V.int)) → rows'.length ≤ m + (i + 1) → 0 ≤ rest' → (0 < rest' → rows'.length ≤ m + i) → (∀ x ∈ rows', -(10 ^ 18) < x ∧ x < 10 ^ 18) →
          ∀ (tc : TT) (tb : TS) (D : Ends), True → True := fun _ _ _ _ _ _ _ _ _ _ _ _ _ _ => trivial
      clear hwh
      refine q_when (by walk_at "et") (fun hb' H5 e5 => ?_) (fun hb' H5 e5 => ?_)
      · have hlt : rest < 10 ^ 18 := of_decide_eq_true hb'
        obtain ⟨c1, c2⟩ := rc hlt
        refine q_app (ex_g e5 hr4) (by walk_at "ev") (by walk_at "ev") (by rw [List.length_map]; omega) fun H6 e6 => ?_
        refine s_asg (by walk_at "ev") fun H7 e7 => ?_
        have hp7 : H7 p = some (.lst ((rows ++ [c]).map V.int)) := e7 p _ (by rw [upd_same, List.map_append]; rfl)
        have ex7 : Ex H H7 := (ex_up ((ex4.trans e5).trans e6) hp).trans e7
        refine s_while (fun n σ2 H2 => n = 0 ∧ σ2 = [some (.ref a), some (.int (m : Int)), some (.ref p), some (.int mix'), some (.int c), some (.int 0)] ∧ Ex H H2 ∧ H2 p = some (.lst ((rows ++ [c]).map V.int))) 0 ⟨rfl, rfl, ex7, hp7⟩ ?_
        rintro n σ2 H2 ⟨rfl, rfl, ex2, hp2⟩
        refine ⟨_, by walk_at "et", fun hb2 => ?_, fun hb2 H8 e8 => ?_⟩
        · simp at hb2
        · exact ⟨rows ++ [c], mix', _, _, rfl, ex2.trans e8, e8 p _ hp2, by rw [List.length_append]; show rows.length + 1 ≤ _; omega, m0', m1', Rows.add hb c1 c2⟩
      · refine s_while (fun n σ2 H2 => ∃ (rows' : List Int) (rest' : Int), σ2 = [some (.ref a), some (.int (m : Int)), some (.ref p), some (.int mix'), some (.int c), some (.int rest')] ∧ n = rest'.toNat ∧ Ex H H2 ∧ H2 p = some (.lst (rows'.map V.int)) ∧ rows'.length ≤ m + i ∧ 0 ≤ rest' ∧ ∀ x ∈ rows', -(10 ^ 18) < x ∧ x < 10 ^ 18) rest.toNat
          ⟨rows, rest, rfl, rfl, ex4.trans e5, ex_g e5 hr4, hrl, r0, hb⟩ ?_
        rintro n σ2 H2 ⟨rows', rest', rfl, rfl, ex2, hp2, hrl', r0', hb'⟩
        refine ⟨_, by walk_at "et", fun hb2 H8 e8 => ?_, fun hb2 H8 e8 => ?_⟩
        · have hb3 := Bool.and_eq_true_iff.mp hb2
          have hpos : 0 < rest' := of_decide_eq_true hb3.1
          have hlm : ((rows'.map V.int).length : Int) < m := of_decide_eq_true hb3.2
          rw [List.length_map] at hlm
          refine ⟨fun σ3 H3 => ∃ n', n' < rest'.toNat ∧ ∃ (rows' : List Int) (rest' : Int), σ3 = [some (.ref a), some (.int (m : Int)), some (.ref p), some (.int mix'), some (.int c), some (.int rest')] ∧ n' = rest'.toNat ∧ Ex H H3 ∧ H3 p = some (.lst (rows'.map V.int)) ∧ rows'.length ≤ m + i ∧ 0 ≤ rest' ∧ ∀ x ∈ rows', -(10 ^ 18) < x ∧ x < 10 ^ 18, fun _ _ h => h, ?_⟩
          refine q_app (ex_g e8 hp2) (by walk_at "ev") (by walk_at "ev") (by rw [List.length_map]; omega) fun H9 e9 => ?_
          refine s_asg (by walk_at "ev") fun H10 e10 => ?_
          have d0 := Int.emod_nonneg rest' (show (1000003 : Int) ≠ 0 by decide)
          have d1 := Int.emod_lt_of_pos rest' (show (0 : Int) < 1000003 by decide)
          refine ⟨(rest' / 1000003).toNat, by omega, rows' ++ [rest' % 1000003], rest' / 1000003, rfl, rfl, (ex_up ((ex2.trans e8).trans e9) hp).trans e10, e10 p _ (by rw [upd_same, List.map_append]; rfl), ?_, by omega, Rows.add hb' (by omega) (by omega)⟩
          rw [List.length_append]
          show rows'.length + 1 ≤ _
          omega
        · exact ⟨rows', mix', _, _, rfl, ex2.trans e8, e8 p _ hp2, by omega, m0', m1', hb'⟩
    · rintro σ' H' ⟨rows, mix, y4, y5, rfl, ex, hr', hrl, m0, m1, hb⟩
      rw [List.length_map] at hrl
      refine q_while (fun n σ2 H2 => ∃ (rows : List Int) (mix : Int), σ2 = [some (.ref a), some (.int (m : Int)), some (.ref p), some (.int mix), y4, y5] ∧ n = m - rows.length ∧ Ex H H2 ∧ H2 p = some (.lst (rows.map V.int)) ∧ rows.length ≤ m + 63 ∧ 0 ≤ mix ∧ mix < 2147483647 ∧ ∀ x ∈ rows, -(10 ^ 18) < x ∧ x < 10 ^ 18)
        (m - rows.length) ⟨rows, mix, rfl, rfl, ex, hr', by omega, m0, m1, hb⟩ ?_
      rintro n σ2 H2 ⟨rows, mix, rfl, rfl, ex, hr', hrl, m0, m1, hb⟩
      refine ⟨_, by walk_at "et", fun hb2 H8 e8 => ?_, fun hb2 H8 e8 => ?_⟩
      · have hlm : ((rows.map V.int).length : Int) < m := of_decide_eq_true hb2
        rw [List.length_map] at hlm
        refine ⟨fun σ3 H3 => ∃ n', n' < m - rows.length ∧ ∃ (rows : List Int) (mix : Int), σ3 = [some (.ref a), some (.int (m : Int)), some (.ref p), some (.int mix), y4, y5] ∧ n' = m - rows.length ∧ Ex H H3 ∧ H3 p = some (.lst (rows.map V.int)) ∧ rows.length ≤ m + 63 ∧ 0 ≤ mix ∧ mix < 2147483647 ∧ ∀ x ∈ rows, -(10 ^ 18) < x ∧ x < 10 ^ 18, fun _ _ h => h, ?_⟩
        refine q_asg (by walk_at "ev") fun H9 e9 => ?_
        have m0' := Int.emod_nonneg (mix * 48271 + 11) (show (2147483647 : Int) ≠ 0 by decide)
        have m1' := Int.emod_lt_of_pos (mix * 48271 + 11) (show (0 : Int) < 2147483647 by decide)
        generalize (mix * 48271 + 11) % 2147483647 = mix' at m0' m1' ⊢
        refine s_app (ex_g e9 (ex_g e8 hr')) (by walk_at "ev") (by walk_at "ev") (by rw [List.length_map]; omega) fun H10 e10 => ?_
        have d0 := Int.emod_nonneg (mix' * mix') (show (999983 : Int) ≠ 0 by decide)
        have d1 := Int.emod_lt_of_pos (mix' * mix') (show (0 : Int) < 999983 by decide)
        refine ⟨m - (rows.length + 1), by omega, rows ++ [mix' * mix' % 999983], mix', rfl, by rw [List.length_append]; rfl, ex_up (((ex.trans e8).trans e9).trans e10) hp, by rw [upd_same, List.map_append]; rfl, ?_, m0', m1', Rows.add hb (by omega) (by omega)⟩
        rw [List.length_append]
        show rows.length + 1 ≤ _
        omega
      · refine s_ret (by walk_at "ev") fun H9 e9 => ?_
        have hlm : ¬ ((rows.map V.int).length : Int) < m := of_decide_eq_false hb2
        rw [List.length_map] at hlm
        exact q rows H9 p hp ((ex.trans e8).trans e9) (e9 p _ (e8 p _ hr')) ⟨by omega, hrl, hb⟩
end

end Su
namespace Su
section
variable {P : Program} {w : World} {K : PySem.W.Frag} {mg : Str → Option Value} {base : Heap}
def firstC (stake seats pledge : Int) : Int := if seats - pledge / stake > 1 then seats - pledge / stake else 1
def spFirst : Sp := fun vs H Q _ => ∃ stake seats pledge : Int, vs = [.int stake, .int seats, .int pledge] ∧ CDivW pledge stake ∧ ∀ H', Ex H H' → Q (.int (firstC stake seats pledge)) H'
theorem ok_first_covered {f : Addr} {fd : FuncData} {k : Nat} (F : Fun K "first_covered" "first_covered" s_first_covered f fd) (T : Top K mg) : FnOk P w K mg base CX0 (k + 1) f fd ["stake", "seats", "pledge"] spFirst := by
  have nd := sc_first_covered.nd
  refine F.ok sc_first_covered (fun vs H Q E h => ?_) (fun cdv A outer s H vs Q E hr h => ?_)
  · obtain ⟨a, b, c, rfl, _⟩ := h
    rfl
  · obtain ⟨stake, seats, pledge, rfl, hd, q⟩ := h
    refine ⟨_, (pss_one (ps_ret (pe_callB (call_max2 rfl) (by rfl) T.m_max (by decide +kernel) (pa_cons pe_int (pa_cons (pe_op op_sub (pv 1) (pe_op op_fdivW (pv 2) (pv 0))) pa_nil))))), ?_⟩
    refine s_ret (by walk_at "ev") fun H1 e1 => ?_
    exact q H1 e1
def spLaw (K : PySem.W.Frag) : Sp := fun vs H Q _ => ∃ (a : Addr) (ns : List Int), vs = [.ref a] ∧ SqL K H a (ns.map V.int) ∧ ns.length ≤ 63 ∧ ∀ H', Q (.bl true) H'
end
section
theorem firstC_le {stake seats pledge : Int} (h1 : 1 ≤ stake) (h2 : 1 ≤ seats) (h3 : 0 ≤ pledge) : 1 ≤ firstC stake seats pledge ∧ firstC stake seats pledge ≤ seats ∧ stake * (seats - firstC stake seats pledge) ≤ pledge ∧
    (firstC stake seats pledge = 1 ∨ pledge < stake * (seats - firstC stake seats pledge + 1)) := by
  have e := Int.mul_ediv_add_emod pledge stake
  have m0 := Int.emod_nonneg pledge (show stake ≠ 0 by omega)
  have m1 := Int.emod_lt_of_pos pledge (show 0 < stake by omega)
  have d0 : 0 ≤ pledge / stake := Int.ediv_nonneg h3 (by omega)
  unfold firstC
  generalize pledge / stake = d at e d0 ⊢
  split
  · refine ⟨by omega, by omega, ?_, .inr ?_⟩
    · rw [show seats - (seats - d) = d by omega]
      omega
    · rw [show seats - (seats - d) + 1 = d + 1 by omega, Int.mul_add]
      omega
  · refine ⟨by omega, by omega, ?_, .inl rfl⟩
    have h := Int.mul_le_mul_of_nonneg_left (show seats - 1 ≤ d by omega) (show 0 ≤ stake by omega)
    omega
variable {P : Program} {w : World} {K : PySem.W.Frag} {mg : Str → Option Value} {base : Heap}
theorem spV_first {stake seats pledge : Int} {H : Hp} (h : CDivW pledge stake) : SpV spFirst [.int stake, .int seats, .int pledge] H (.int (firstC stake seats pledge)) := fun H1 _ Q q _ => ⟨stake, seats, pledge, rfl, h, q⟩
theorem ok_law {f : Addr} {fd : FuncData} (F : Fun K "law" "law" s_law f fd) (T : Top K mg) : FnOk P w K mg base CX0 2 f fd ["_law_script"] (spLaw K) := by
  have nd := sc_law.nd
  have G__law_draws : FnOk P w K mg base CX0 1 T.f__law_draws T.fd__law_draws ["_law_script", "_law_many"] (spDraws K) := ok__law_draws T.F__law_draws T
  have G_first_covered : FnOk P w K mg base CX0 1 T.f_first_covered T.fd_first_covered ["stake", "seats", "pledge"] spFirst := ok_first_covered T.F_first_covered T
  refine F.ok sc_law (fun vs H Q E h => ?_) (fun cdv A outer s H vs Q E hr h => ?_)
  · obtain ⟨a, ns, rfl, _⟩ := h
    rfl
  · obtain ⟨a, ns, rfl, hS, hlen, q⟩ := h
    refine ⟨_, (pss_cons (ps_set (i := 1) nd rfl (.inl rfl) (pe_call G__law_draws (hr.mono (by decide)) (by rfl) T.m__law_draws T.F__law_draws.kp T.b__law_draws .nil pass0 (pa_cons (pv 0) (pa_cons pe_int pa_nil))))
      (pss_cons (ps_set (i := 2) nd rfl (.inl rfl) (pe_op op_add pe_int (pe_callB call_abs (by rfl) T.m_abs (by decide +kernel) (pa_cons (pe_ix ix_list (pv 1) pe_int (fun _ _ => rfl)) pa_nil))))
      (pss_cons (ps_set (i := 3) nd rfl (.inl rfl) (pe_op op_add pe_int (pe_op op_mod (pe_ix ix_list (pv 1) pe_int (fun _ _ => rfl)) pe_int)))
      (pss_cut (ps_if (pt_cmpR op_eq (pe_op op_mod (pe_ix ix_list (pv 1) pe_int (fun _ _ => rfl)) pe_int) pe_int (nomark _))
        (pss_one (ps_set (i := 3) nd rfl (.inl rfl) (pe_op op_add pe_int (pe_op op_mod (pe_ix ix_list (pv 1) pe_int (fun _ _ => rfl)) (pe_op op_pow pe_int pe_int)))))
        pss_nil)
      (pss_cons (ps_set (i := 4) nd rfl (.inl rfl) (pe_ix ix_list (pe_lst (pa_cons pe_int (pa_cons (pe_op op_mod pe_int (pv 2)) (pa_cons (pe_op op_sub (pv 2) pe_int) (pa_cons (pe_op op_mod (pe_ix ix_list (pv 1) pe_int (fun _ _ => rfl)) (pv 2)) pa_nil))))) (pe_op op_mod (pe_ix ix_list (pv 1) pe_int (fun _ _ => rfl)) pe_int) (fun _ _ => rfl)))
      (pss_cons (ps_set (i := 5) nd rfl (.inl rfl) (pe_op op_add (pe_op op_mulW (pv 2) (pe_op op_mod (pe_ix ix_list (pv 1) pe_int (fun _ _ => rfl)) (pe_op op_add (pv 3) pe_int))) (pv 4)))
      (pss_cut (ps_if (pt_cmpR op_eq (pe_op op_mod (pe_ix ix_list (pv 1) pe_int (fun _ _ => rfl)) pe_int) pe_int (nomark _))
        (pss_one (ps_set (i := 5) nd rfl (.inl rfl) (pe_callB call_abs (by rfl) T.m_abs (by decide +kernel) (pa_cons (pe_ix ix_list (pv 1) pe_int (fun _ _ => rfl)) pa_nil))))
        pss_nil)
      (pss_cons (ps_set (i := 6) nd rfl (.inl rfl) (pe_call G_first_covered (hr.mono (by decide)) (by rfl) T.m_first_covered T.F_first_covered.kp T.b_first_covered .nil pass0 (pa_cons (pv 2) (pa_cons (pv 3) (pa_cons (pv 5) pa_nil)))))
      (pss_cons (ps_if (PW.pt (pw_or (pt_not (pt_val (pe_callB call_isi (by rfl) T.m_isinstance (by decide +kernel) (pa_cons (pv 6) (pa_cons (pe_bltn (v := .ty "int") (by rfl) T.m_int (by decide +kernel) rfl) pa_nil))))) (pw_or (pt_val (pe_callB call_isi (by rfl) T.m_isinstance (by decide +kernel) (pa_cons (pv 6) (pa_cons (pe_bltn (v := .ty "bool") (by rfl) T.m_bool (by decide +kernel) rfl) pa_nil)))) (pw_or1 (pt_cmpR op_lt (pv 6) pe_int (nomark _))))))
        (pss_one (ps_ret pe_bl))
        pss_nil)
      (pss_cons (ps_if (pt_cmpR op_gt (pe_op op_mulW (pv 2) (pe_op op_sub (pv 3) (pv 6))) (pv 5) (nomark _))
        (pss_one (ps_ret pe_bl))
        pss_nil)
      (pss_one (ps_ret (pe_or (pe_cmpR op_eq (pv 6) pe_int (nomark _)) (pe_one (pe_cmpR op_gt (pe_op op_mulW (pv 2) (pe_op op_add (pe_op op_sub (pv 3) (pv 6)) pe_int)) (pv 5) (nomark _)))))))))))))))), ?_⟩
    refine q_callN (by walk_at "ea") (spN_draws (m := 6) hS hlen (by decide)) ?_
    rintro _ p H1 ⟨rows, hR, rfl⟩ hp e1 h1
    have hl := hR.1
    have hs := sq_of (K := K) h1
    -- stake
    refine q_asg (by walk_at "ev") fun H2 e2 => ?_
    have hs := ex_l e2 hs
    obtain ⟨b1, b2⟩ := hR.get (Int.toNat 0)
    obtain ⟨stake, hstake, s1, s2⟩ : ∃ stake, stake = 1 + (if rows.getD (Int.toNat 0) 0 < 0 then -rows.getD (Int.toNat 0) 0 else rows.getD (Int.toNat 0) 0) ∧ 1 ≤ stake ∧ stake ≤ 10 ^ 18 := ⟨_, rfl, by split <;> omega, by split <;> omega⟩
    rw [← hstake]
    clear hstake
    -- seats
    refine q_asg (by walk_at "ev") fun H3 e3 => ?_
    have hs := ex_l e3 hs
    refine q_cut (M := fun σ' H' => ∃ seats : Int, σ' = [some (.ref a), some (.ref p), some (.int stake), some (.int seats), none, none, none] ∧ 1 ≤ seats ∧ seats ≤ 10 ^ 12 ∧ SqL K H' p (rows.map V.int)) ?_ ?_
    · refine s_when (by walk_at "et") (fun _ H4 e4 => ?_) (fun _ H4 e4 => ?_)
      · have hs := ex_l e4 hs
        refine s_asg (by walk_at "ev") fun H5 e5 => ?_
        have hs := ex_l e5 hs
        exact ⟨_, rfl, by omega, by omega, hs⟩
      · have hs := ex_l e4 hs
        exact ⟨_, rfl, by omega, by omega, hs⟩
    rintro _ H4 ⟨seats, rfl, t1, t2, hs⟩
    -- rest
    refine q_asg (by (apply ev_opL1); (exact el_lst (by walk_at "ea") (by show 4 ≤ 100000; decide)); (intro _ e; have hs := ex_l e hs; walk_at "ev"); (intro _ _ h _; exact rv_ixL (sq_of h) (at4 (by omega) (by omega)))) fun H5 e5 => ?_
    have hs := ex_l e5 hs
    obtain ⟨rest, hrest, u1, u2⟩ : ∃ rest, rest = (if rows.getD (Int.toNat 3) 0 % 4 = 0 then 0 else if rows.getD (Int.toNat 3) 0 % 4 = 1 then 1 % stake else if rows.getD (Int.toNat 3) 0 % 4 = 2 then stake - 1 else rows.getD (Int.toNat 4) 0 % stake) ∧ 0 ≤ rest ∧ rest < stake := by
      have a1 := Int.emod_nonneg 1 (show stake ≠ 0 by omega)
      have a2 := Int.emod_lt_of_pos 1 (show 0 < stake by omega)
      have a3 := Int.emod_nonneg (rows.getD (Int.toNat 4) 0) (show stake ≠ 0 by omega)
      have a4 := Int.emod_lt_of_pos (rows.getD (Int.toNat 4) 0) (show 0 < stake by omega)
      refine ⟨_, rfl, ?_, ?_⟩ <;> repeat' split <;> omega
    rw [← hrest]
    clear hrest
    -- pledge
    have c1 := Int.emod_nonneg (rows.getD (Int.toNat 2) 0) (show seats + 4 ≠ 0 by omega)
    have c2 := Int.emod_lt_of_pos (rows.getD (Int.toNat 2) 0) (show 0 < seats + 4 by omega)
    refine q_asg (by walk_at "ev") fun H6 e6 => ?_
    have hs := ex_l e6 hs
    have c3 := Int.mul_nonneg (show 0 ≤ stake by omega) c1
    have c4 : stake * (rows.getD (Int.toNat 2) 0 % (seats + 4)) ≤ 10 ^ 18 * 10 ^ 13 := Int.le_trans (Int.mul_le_mul_of_nonneg_right s2 c1) (Int.mul_le_mul_of_nonneg_left (by omega) (by decide))
    refine q_cut (M := fun σ' H' => ∃ pledge : Int, σ' = [some (.ref a), some (.ref p), some (.int stake), some (.int seats), some (.int rest), some (.int pledge), none] ∧ 0 ≤ pledge ∧ pledge ≤ 10 ^ 40) ?_ ?_
    · refine s_when (by walk_at "et") (fun _ H4 e4 => ?_) (fun _ H4 e4 => ?_)
      · have hs := ex_l e4 hs
        refine s_asg (by walk_at "ev") fun H5 e5 => ?_
        obtain ⟨b1, b2⟩ := hR.get (Int.toNat 4)
        exact ⟨_, rfl, by split <;> omega, by split <;> omega⟩
      · exact ⟨_, rfl, by omega, by omega⟩
    rintro _ H7 ⟨pledge, rfl, p1, p2⟩
    refine q_asg (by (apply ev_call); (walk_at "ea"); exact spV_first (wd (by omega) (n400' (by omega) (by omega)))) fun H8 e8 => ?_
    obtain ⟨f1, f2, f3, f4⟩ := firstC_le s1 t1 p1
    generalize firstC stake seats pledge = told at f1 f2 f3 f4 ⊢
    refine q_when (by walk_at "et") (fun hb H9 e9 => ?_) (fun hb H9 e9 => ?_)
    · simp at hb
      omega
    refine q_when (by walk_at "et") (fun hb H10 e10 => ?_) (fun hb H10 e10 => ?_)
    · have := of_decide_eq_true hb
      omega
    refine s_ret (v := .bl true) (ev_is (by walk_at "ev") ?_) fun H11 e11 => q H11
    rcases f4 with f4 | f4
    · rw [f4]
      rfl
    · rw [decide_eq_true f4, Bool.or_true]
end

end Su
namespace Su
def top_mk {K : PySem.W.Frag} {h : Heap} {mg : Str → Option Value} (X : K.In h) (G : h.Ns mainGlobals mg)
    {od0 an0 : Option Addr} {sl0 : Array (Option Value)} {oc0 kV0 dc0 pm0 cd0 ct0 : Value} {f0 : Addr}
    (a0 : PySem.W.nsIn K mainGlobals "first_covered" = some (some (.ref f0))) (l0 : K.lookup f0 = some ⟨oc0, od0, .func (PySem.W.fnOf "first_covered" "first_covered" (defArgs s_first_covered) (defBody s_first_covered) (defScope s_first_covered) .none kV0 dc0 pm0 an0 cd0 ct0), sl0⟩) (c0 : PySem.W.codeIn K cd0 "first_covered" = true) (k0 : PySem.W.keepIn K (.ref f0) = true)
    {od1 an1 : Option Addr} {sl1 : Array (Option Value)} {oc1 kV1 dc1 pm1 cd1 ct1 : Value} {f1 : Addr}
    (a1 : PySem.W.nsIn K mainGlobals "_law_draws" = some (some (.ref f1))) (l1 : K.lookup f1 = some ⟨oc1, od1, .func (PySem.W.fnOf "_law_draws" "_law_draws" (defArgs s__law_draws) (defBody s__law_draws) (defScope s__law_draws) .none kV1 dc1 pm1 an1 cd1 ct1), sl1⟩) (c1 : PySem.W.codeIn K cd1 "_law_draws" = true) (k1 : PySem.W.keepIn K (.ref f1) = true)
    {od2 an2 : Option Addr} {sl2 : Array (Option Value)} {oc2 kV2 dc2 pm2 cd2 ct2 : Value} {f2 : Addr}
    (a2 : PySem.W.nsIn K mainGlobals "law" = some (some (.ref f2))) (l2 : K.lookup f2 = some ⟨oc2, od2, .func (PySem.W.fnOf "law" "law" (defArgs s_law) (defBody s_law) (defScope s_law) .none kV2 dc2 pm2 an2 cd2 ct2), sl2⟩) (c2 : PySem.W.codeIn K cd2 "law" = true) (k2 : PySem.W.keepIn K (.ref f2) = true)
    (z0 : PySem.W.nsIn K mainGlobals "abs" = some none)
    (z1 : PySem.W.nsIn K mainGlobals "bool" = some none)
    (z2 : PySem.W.nsIn K mainGlobals "int" = some none)
    (z3 : PySem.W.nsIn K mainGlobals "isinstance" = some none)
    (z4 : PySem.W.nsIn K mainGlobals "len" = some none)
    (z5 : PySem.W.nsIn K mainGlobals "max" = some none) : Top K mg where
      f_first_covered := f0
      fd_first_covered := _
      F_first_covered := fun_mk (st := s_first_covered) l0 c0 k0
      b_first_covered := (fun_mk (st := s_first_covered) l0 c0 k0).binds (ps := ["stake", "seats", "pledge"]) (fun _ _ _ _ _ _ us hl => match us, hl with | [_, _, _], _ => rfl)
      m_first_covered := PySem.W.mg_of X G a0
      f__law_draws := f1
      fd__law_draws := _
      F__law_draws := fun_mk (st := s__law_draws) l1 c1 k1
      b__law_draws := (fun_mk (st := s__law_draws) l1 c1 k1).binds (ps := ["_law_script", "_law_many"]) (fun _ _ _ _ _ _ us hl => match us, hl with | [_, _], _ => rfl)
      m__law_draws := PySem.W.mg_of X G a1
      f_law := f2
      fd_law := _
      F_law := fun_mk (st := s_law) l2 c2 k2
      b_law := (fun_mk (st := s_law) l2 c2 k2).binds (ps := ["_law_script"]) (fun _ _ _ _ _ _ us hl => match us, hl with | [_], _ => rfl)
      m_law := PySem.W.mg_of X G a2
      m_abs := PySem.W.mg_none_of X G z0
      m_bool := PySem.W.mg_none_of X G z1
      m_int := PySem.W.mg_none_of X G z2
      m_isinstance := PySem.W.mg_none_of X G z3
      m_len := PySem.W.mg_none_of X G z4
      m_max := PySem.W.mg_none_of X G z5
theorem all_mk {l : PySem.W.OpenLaw} {w : World} {K : PySem.W.Frag} {h : Heap} {mg : Str → Option Value} {fa : Addr} (X : K.In h) (G : h.Ns mainGlobals mg) (hfa : mg "law" = some (.ref fa))
    {od0 an0 : Option Addr} {sl0 : Array (Option Value)} {oc0 kV0 dc0 pm0 cd0 ct0 : Value} {f0 : Addr}
    (a0 : PySem.W.nsIn K mainGlobals "first_covered" = some (some (.ref f0))) (l0 : K.lookup f0 = some ⟨oc0, od0, .func (PySem.W.fnOf "first_covered" "first_covered" (defArgs s_first_covered) (defBody s_first_covered) (defScope s_first_covered) .none kV0 dc0 pm0 an0 cd0 ct0), sl0⟩) (c0 : PySem.W.codeIn K cd0 "first_covered" = true) (k0 : PySem.W.keepIn K (.ref f0) = true)
    {od1 an1 : Option Addr} {sl1 : Array (Option Value)} {oc1 kV1 dc1 pm1 cd1 ct1 : Value} {f1 : Addr}
    (a1 : PySem.W.nsIn K mainGlobals "_law_draws" = some (some (.ref f1))) (l1 : K.lookup f1 = some ⟨oc1, od1, .func (PySem.W.fnOf "_law_draws" "_law_draws" (defArgs s__law_draws) (defBody s__law_draws) (defScope s__law_draws) .none kV1 dc1 pm1 an1 cd1 ct1), sl1⟩) (c1 : PySem.W.codeIn K cd1 "_law_draws" = true) (k1 : PySem.W.keepIn K (.ref f1) = true)
    {od2 an2 : Option Addr} {sl2 : Array (Option Value)} {oc2 kV2 dc2 pm2 cd2 ct2 : Value} {f2 : Addr}
    (a2 : PySem.W.nsIn K mainGlobals "law" = some (some (.ref f2))) (l2 : K.lookup f2 = some ⟨oc2, od2, .func (PySem.W.fnOf "law" "law" (defArgs s_law) (defBody s_law) (defScope s_law) .none kV2 dc2 pm2 an2 cd2 ct2), sl2⟩) (c2 : PySem.W.codeIn K cd2 "law" = true) (k2 : PySem.W.keepIn K (.ref f2) = true)
    (z0 : PySem.W.nsIn K mainGlobals "abs" = some none)
    (z1 : PySem.W.nsIn K mainGlobals "bool" = some none)
    (z2 : PySem.W.nsIn K mainGlobals "int" = some none)
    (z3 : PySem.W.nsIn K mainGlobals "isinstance" = some none)
    (z4 : PySem.W.nsIn K mainGlobals "len" = some none)
    (z5 : PySem.W.nsIn K mainGlobals "max" = some none) :
    ∃ fd : FuncData, (∀ (s : Shared) (v : Value), BindsTo s fd ⟨[v], []⟩ [("_law_script", v)]) ∧ ∀ base : Heap, K.In base → base.Ns mainGlobals mg → FnOk l.prog w K mg base CX0 2 fa fd ["_law_script"] (spLaw K) := by
  have e := hfa.symm.trans (PySem.W.mg_of X G a2)
  cases e
  exact ⟨PySem.W.fnOf "law" "law" (defArgs s_law) (defBody s_law) (defScope s_law) .none kV2 dc2 pm2 an2 cd2 ct2, fun s v => .of_eq rfl, fun base _ _ => ok_law (fun_mk (st := s_law) l2 c2 k2) (top_mk X G a0 l0 c0 k0 a1 l1 c1 k1 a2 l2 c2 k2 z0 z1 z2 z3 z4 z5)⟩
end Su
open PySem PySem.W PyProof.Rows
set_option maxHeartbeats 0 in
theorem PySem.Challenge.cw_susu_k01_first_covered_round_holds : PySem.Challenge.rw_susu_k01_first_covered_round.Holds := by
  w_on; o_law; k_head; (case hw => w_witness2)
  k_fill
  refine L2.walk_of (l := PySem.Challenge.rw_susu_k01_first_covered_round) (n := 63) (k := 2) (x := "_law_script") (CX := fun _ => L2.CX0) (sp := fun w => Su.spLaw _) rfl (by decide) rfl ⟨rfl, by decide, by decide⟩ (fun w h Y => PySem.W.kIn_of Y) ?F (fun _ _ a ns hl _ hS => ⟨a, ns, rfl, hS, hl, fun _ => rfl⟩) (fun _ _ _ _ _ h => h)
  case F =>
    intro w mg fa h KX G hmg
    refine' Su.all_mk KX G hmg ?a0 ?l0 ?c0 ?k0 ?a1 ?l1 ?c1 ?k1 ?a2 ?l2 ?c2 ?k2 ?z0 ?z1 ?z2 ?z3 ?z4 ?z5
    (case a0 => k_is); (case l0 => k_is); (case c0 => k_is); (case k0 => k_is); (case a1 => k_is); (case l1 => k_is); (case c1 => k_is); (case k1 => k_is); (case a2 => k_is); (case l2 => k_is); (case c2 => k_is); (case k2 => k_is); (case z0 => k_is); (case z1 => k_is); (case z2 => k_is); (case z3 => k_is); (case z4 => k_is); (case z5 => k_is)

import PyProof.Rows.All
import Wide.All
import OpenK.AllK
import Wide.FinOn
import KE.KNestM
import KE.KLam
import KE.DataMinKey
import HandS.Nested
import HandS.EndTab
import HandS.Words
import HandS.ForMost
import HandS.WordsExc
import HandS.ExcOwn
import HandS.Exc
import HandS.Evl
import HandS.IsInst
import HandS.Wide
import HandS.Zip
import HandS.More
import KE.GoesEnumKw
import KE.GoesMore
import HandS.SortKw
import KE.KEqDeep
import HandS.Conv
import HandS.ExcIs
import HandS.Strs
import HandS.SetFor
import HandS.Set
import HandS.Iter
import HandS.Dict
import HandS.Comp
import HandS.Defaults
import HandS.Text
import HandS.Walk
import HandS.Star
import KE.KRevSl
import KE.GoesZip
import KE.GoesMore
import HandS.RaiseMore
import HandS.Codes
import HandS.Deep
import HandS.Replace
import HandS.ReplaceLit
import HandS.Head0
import HandS.Head1
import HandS.Head2
import PySem.Challenge.RW_susu_k39_pages
set_option Elab.async false
set_option linter.all false
set_option maxRecDepth 100000

namespace Su
open PySem PySem.Spec PyProof.Rows L2 Evl
/-! ### small rules over HandS.Evl -/
theorem CMul.l {i j : Int} (h1 : -(2 ^ 64) < i) (h2 : i < 2 ^ 64) : CMul i j := .inl ⟨h1, h2⟩
theorem CMul.r {i j : Int} (h1 : -(2 ^ 64) < j) (h2 : j < 2 ^ 64) : CMul i j := .inr ⟨h1, h2⟩
theorem rv_mod {H : Hp} {i j : Int} (h : 0 < j) : RV (rI (fun _ j => 0 < j) fun i j => .int (i % j)) (.int i) (.int j) H (.int (i % j)) := rv_I h
theorem rv_div {H : Hp} {i j : Int} (h : 0 < j) (h2 : j < 1073741824) : RV (rI CDiv fun i j => .int (i / j)) (.int i) (.int j) H (.int (i / j)) := rv_I ⟨h, h2⟩
theorem rv_mul {H : Hp} {i j : Int} (h : CMul i j) : RV (rI CMul fun i j => .int (i * j)) (.int i) (.int j) H (.int (i * j)) := rv_I h
theorem rv_pow {H : Hp} {i j : Int} (h : CPow i j) : RV (rI CPow fun i j => .int (i ^ j.toNat)) (.int i) (.int j) H (.int (i ^ j.toNat)) := rv_I h
theorem rv_p18 {H : Hp} : RV (rI CPow fun i j => .int (i ^ j.toNat)) (.int 10) (.int 18) H (.int (10 ^ 18)) := rv_I (C := CPow) (g := fun i j => .int (i ^ j.toNat)) ⟨by decide, by decide, by decide⟩
theorem rv_p12 {H : Hp} : RV (rI CPow fun i j => .int (i ^ j.toNat)) (.int 10) (.int 12) H (.int (10 ^ 12)) := rv_I (C := CPow) (g := fun i j => .int (i ^ j.toNat)) ⟨by decide, by decide, by decide⟩
theorem rv_p20 {H : Hp} : RV (rI CPow fun i j => .int (i ^ j.toNat)) (.int 10) (.int 20) H (.int (10 ^ 20)) := rv_I (C := CPow) (g := fun i j => .int (i ^ j.toNat)) ⟨by decide, by decide, by decide⟩
theorem rv_divW {H : Hp} {i j : Int} (h : CDivW i j) : RV (rI CDivW fun i j => .int (i / j)) (.int i) (.int j) H (.int (i / j)) := rv_I h
theorem rv_mulW {H : Hp} {i j : Int} (h : CMulW i j) : RV (rI CMulW fun i j => .int (i * j)) (.int i) (.int j) H (.int (i * j)) := rv_I h
theorem rc_abs {H : Hp} {i : Int} : RC (fun xs H Q => ∃ i, xs = [V.int i] ∧ Q (.int (if i < 0 then -i else i)) H) [.int i] H (.int (if i < 0 then -i else i)) := fun H1 _ _ q => ⟨i, rfl, q H1 (Ex.refl H1)⟩
theorem rc_max {H : Hp} {i j : Int} : RC (fun xs H Q => ∃ i j, xs = [V.int i, .int j] ∧ Q (.int (if j > i then j else i)) H) [.int i, .int j] H (.int (if j > i then j else i)) := fun H1 _ _ q => ⟨i, j, rfl, q H1 (Ex.refl H1)⟩
theorem rc_min {H : Hp} {i j : Int} : RC (fun xs H Q => ∃ i j, xs = [V.int i, .int j] ∧ Q (.int (if j < i then j else i)) H) [.int i, .int j] H (.int (if j < i then j else i)) := fun H1 _ _ q => ⟨i, j, rfl, q H1 (Ex.refl H1)⟩
theorem rc_len {K : PySem.W.Frag} {H : Hp} {p : Addr} {ys : List V} (h : SqL K H p ys ∨ SqT K H p ys) : RC (fun xs H Q => ∃ p ys, xs = [V.ref p] ∧ (SqL K H p ys ∨ SqT K H p ys) ∧ Q (.int ys.length) H) [.ref p] H (.int ys.length) :=
  fun H1 e _ q => ⟨p, ys, rfl, h.elim (fun h => .inl (ex_l e h)) (fun h => .inr (ex_t e h)), q H1 (Ex.refl H1)⟩
theorem rc_isi_int {K : PySem.W.Frag} {H : Hp} {i : Int} {n : String} {b : Bool} (h : kitB "int" n = some b) : RC (rIsi K) [.int i, .ty n] H (.bl b) :=
  fun H1 _ _ q => ⟨.int i, .ty n, .type "int", .type n, b, rfl, .ty n, .base (.int i), kit_ty h, q H1 (Ex.refl H1)⟩
theorem ex_g {H H' : Hp} {a : Addr} {o : HO} (e : Ex H H') (h : H a = some o) : H' a = some o := e a o h
theorem at_rows {rows : List Int} {z : Int} (h0 : 0 ≤ z) (h : z < rows.length) : atI (rows.map V.int) z = some (.int (rows.getD z.toNat 0)) := by
  have hz : z = ((z.toNat : Nat) : Int) := by omega
  have hl : z.toNat < rows.length := by omega
  refine at_of hz ?_
  rw [List.getElem?_map, List.getElem?_eq_getElem hl, List.getD_eq_getElem?_getD, List.getElem?_eq_getElem hl]
  rfl
theorem at4 {a b c d z : Int} (h0 : 0 ≤ z) (h : z < 4) : atI [V.int a, .int b, .int c, .int d] z = some (.int (if z = 0 then a else if z = 1 then b else if z = 2 then c else d)) := by
  have h4 : z = 0 ∨ z = 1 ∨ z = 2 ∨ z = 3 := by omega
  rcases h4 with rfl | rfl | rfl | rfl <;> rfl
theorem wm {i j : Int} (h1 : i.natAbs < 2 ^ 240) (h2 : j.natAbs < 2 ^ 240) : CMulW i j := wide_mul h1 h2 (by decide) (by decide) (by decide)
theorem wd {i j : Int} (h : 0 < j) (h2 : j.natAbs < 2 ^ 240) : CDivW i j := wide_div h h2 (by decide) (by decide)
theorem n400 {i : Int} {n : Int} (h1 : -n ≤ i) (h2 : i ≤ n) (h : n.toNat < 2 ^ 240) : i.natAbs < 2 ^ 240 := by omega
theorem n400' {i : Int} (h1 : -(10 ^ 70) ≤ i) (h2 : i ≤ 10 ^ 70) : i.natAbs < 2 ^ 240 := n400 h1 h2 (by decide)
theorem decT {p : Prop} [Decidable p] (h : p) {b : Bool} (e : decide p = b) : b = true := by rw [← e]; exact decide_eq_true h
abbrev vErr : List Value := [.type "ValueError", .type "Exception", .type "BaseException", .type "object"]
theorem ex_up {H : Hp} {p : Addr} {o' : HO} {H0 : Hp} (e : Ex H0 H) (hp : H0 p = none) : Ex H0 (upd H p o') := Ex.mut e hp
theorem seq_ne {K : PySem.W.Frag} {H H' : Hp} {a : Addr} {xs : List V} (e : Ex H H') (h : SqL K H a xs) : SqL K H' a xs := ex_l e h
/-- a def's call that hands back a new list of which something is known -/
def SpN (sp : Sp) (vs : List V) (H : Hp) (P : List V → Prop) : Prop := ∀ H1, Ex H H1 → ∀ Q : VK, (∀ xs p H2, P xs → H1 p = none → Ex H1 H2 → H2 p = some (.lst xs) → Q (.ref p) H2) → ∀ E : XK, sp vs H1 Q E
theorem q_callN {sp : Sp} {dvs vs : List V} {E : XK} {ta : TA} {σ : L2.St} {H : Hp} {i : Nat} {D : Ends} {tz : TS} {P : List V → Prop} (h : EvA ta σ H vs) (hs : SpN sp (vs ++ dvs) H P)
    (k : ∀ xs p H1, P xs → H p = none → Ex H H1 → H1 p = some (.lst xs) → tz D (σ.set i (some (.ref p))) H1) : tSeq (tAsg (tCall sp dvs E ta) (gName i)) tz D σ H :=
  h H (Ex.refl H) _ fun H1 e1 => hs H1 e1 _ (fun xs p H2 hP hp e2 h2 => k xs p H2 hP (fresh_back e1 hp) (e1.trans e2) h2) E
theorem s_callN {sp : Sp} {dvs vs : List V} {E : XK} {ta : TA} {σ : L2.St} {H : Hp} {i : Nat} {D : Ends} {P : List V → Prop} (h : EvA ta σ H vs) (hs : SpN sp (vs ++ dvs) H P)
    (k : ∀ xs p H1, P xs → H p = none → Ex H H1 → H1 p = some (.lst xs) → D.nx (σ.set i (some (.ref p))) H1) : tAsg (tCall sp dvs E ta) (gName i) D σ H :=
  h H (Ex.refl H) _ fun H1 e1 => hs H1 e1 _ (fun xs p H2 hP hp e2 h2 => k xs p H2 hP (fresh_back e1 hp) (e1.trans e2) h2) E
/-- .. whose first argument is a new list -/
theorem s_callN1 {sp : Sp} {dvs vs xs0 : List V} {E : XK} {te : TE} {tr : TA} {σ : L2.St} {H : Hp} {i : Nat} {D : Ends} {P : List V → Prop} (h1 : EvL te σ H xs0) (h2 : EvA tr σ H vs) (hs : ∀ p0 H1, Ex H H1 → H1 p0 = some (.lst xs0) → SpN sp (.ref p0 :: vs ++ dvs) H1 P)
    (k : ∀ xs p H1, P xs → H p = none → Ex H H1 → H1 p = some (.lst xs) → D.nx (σ.set i (some (.ref p))) H1) : tAsg (tCall sp dvs E (tCons te tr)) (gName i) D σ H :=
  h1 H (Ex.refl H) _ fun p0 H1 _ e1 hp0 => h2 H1 e1 _ fun H2 e2 => hs p0 H2 (e1.trans e2) (e2 _ _ hp0) H2 (Ex.refl H2) _ (fun xs p H3 hP hp e3 h3 => k xs p H3 hP (fresh_back (e1.trans e2) hp) ((e1.trans e2).trans e3) h3) E
theorem ev_callL {sp : Sp} {dvs vs xs0 : List V} {E : XK} {te : TE} {tr : TA} {σ : L2.St} {H : Hp} {z : V} (h1 : EvL te σ H xs0) (h2 : EvA tr σ H vs) (hs : ∀ p0 H1, Ex H H1 → H1 p0 = some (.lst xs0) → SpV sp (.ref p0 :: vs ++ dvs) H1 z) : Ev (tCall sp dvs E (tCons te tr)) σ H z := fun H0 e0 Q q =>
  h1 H0 e0 _ fun p0 H1 _ e1 hp0 => h2 H1 (e0.trans e1) _ fun H2 e2 => hs p0 H2 ((e0.trans e1).trans e2) (e2 _ _ hp0) H2 (Ex.refl H2) _ (fun H3 e3 => q H3 ((e1.trans e2).trans e3)) E
theorem cut_from (xs : List V) (k : Nat) : cutV xs (some (k : Int)) none = xs.drop k := by
  unfold cutV
  rw [HT.sIx_nat, HT.sIx_none]
  by_cases h : k ≤ xs.length
  · rw [Nat.min_eq_left h, List.take_of_length_le (by rw [List.length_drop]; omega)]
  · rw [Nat.min_eq_right (by omega), Nat.sub_self, List.take_zero, List.drop_of_length_le (by omega)]
theorem s_asgSub {l : Addr} {xs : List V} {z : Int} {j : Nat} {te ta tb : TE} {σ : L2.St} {H : Hp} {v : V} {D : Ends} (hl : H l = some (.lst xs)) (h : Ev te σ H v) (ho : Ev ta σ H (.ref l)) (hi : Ev tb σ H (.int z)) (hz : z = (j : Int)) (hj : j < xs.length)
    (k : ∀ H1, Ex H H1 → D.nx σ (upd H1 l (.lst (xs.set j v)))) : tAsg te (gSub ta tb rSetL) D σ H := s_setL hl h ho (hz ▸ hi) hj k
end Su
open PySem PySem.Spec PyProof.Rows L2 Evl Su
/-! ### small tactics: "ev" an expression, "et" a test, "ea" arguments, "rv" an operator, "rc" a built-in, "hc" a bound -/
local macro_rules | `(tactic| walk_at "hc") => `(tactic| first | assumption | omega | (exact Su.CMul.l (by omega) (by omega)) | (exact Su.CMul.r (by omega) (by omega)) | (exact Su.wm (Su.n400' (by omega) (by omega)) (Su.n400' (by omega) (by omega))) | (exact Su.wd (by omega) (Su.n400' (by omega) (by omega))) | decide)
local macro_rules | `(tactic| walk_at "rv") => `(tactic| first
  | (with_reducible exact rv_I0)
  | (with_reducible exact rv_eq rfl)
  | (with_reducible exact rv_ne rfl)
  | (with_reducible refine Su.rv_mod ?_; walk_at "hc")
  | (with_reducible refine Su.rv_div ?_ ?_ <;> walk_at "hc")
  | (with_reducible refine Su.rv_mul ?_; walk_at "hc")
  | exact Su.rv_p18
  | exact Su.rv_p12
  | exact Su.rv_p20
  | (with_reducible refine Su.rv_divW ?_; walk_at "hc")
  | (with_reducible refine Su.rv_mulW ?_; walk_at "hc")
  | (apply rv_ixL; (first | assumption | (exact sq_of (by assumption))); (first | (apply Su.at_rows <;> walk_at "hc") | rfl | assumption)))
local macro_rules | `(tactic| walk_at "rc") => `(tactic| first
  | exact Su.rc_abs
  | exact Su.rc_max
  | exact Su.rc_min
  | exact Su.rc_isi_int (b := true) (by decide +kernel)
  | exact Su.rc_isi_int (b := false) (by decide +kernel))
local macro_rules | `(tactic| walk_at "ea") => `(tactic| first
  | exact ea_nil
  | (apply ea_cons; (walk_at "ev"); (walk_at "ea")))
local macro_rules | `(tactic| walk_at "ev") => `(tactic| first
  | exact ev_c
  | exact ev_var rfl
  | (apply ev_op; (walk_at "ev"); (walk_at "ev"); (walk_at "rv"))
  | (apply ev_un; (walk_at "ev"); (exact ru_neg))
  | (apply ev_andV; (walk_at "ev"); (intro _; walk_at "ev"))
  | (apply ev_orV; (walk_at "ev"); (intro _; walk_at "ev"))
  | (apply ev_notV; (walk_at "ev"))
  | (apply ev_len; (walk_at "ev"); first | assumption | (exact sq_of (by assumption)))
  | (apply ev_cb; (walk_at "ea"); (walk_at "rc")))
local macro_rules | `(tactic| walk_at "et") => `(tactic| first
  | (apply et_and; (walk_at "et"); (intro _; walk_at "et"))
  | (apply et_or; (walk_at "et"); (intro _; walk_at "et"))
  | (apply et_not; (walk_at "et"))
  | (apply et_test; (walk_at "ev"))
  | (apply et_B; (walk_at "ev")))

open PySem PySem.Spec PyProof.Rows L2 Evl Su
namespace Su
def topS (i : Nat) : Stmt := PySem.Challenge.pw_susu_k39_pages.main.body.getD i (.Pass ⟨0, 0, 0, 0⟩)
abbrev s_is_name : Stmt := topS 7
abbrev N_is_name : List Str := ["text", "sign"]
theorem sc_is_name : FnScope N_is_name ["text"] (defScope s_is_name) := ⟨rfl, rfl, rfl, by decide +kernel, rfl, by decide +kernel, by decide +kernel⟩
abbrev s_deed_text : Stmt := topS 16
abbrev N_deed_text : List Str := ["deed", "name", "circle", "stake", "bidding", "seats", "head", "seat", "word"]
theorem sc_deed_text : FnScope N_deed_text ["deed"] (defScope s_deed_text) := ⟨rfl, rfl, rfl, by decide +kernel, rfl, by decide +kernel, by decide +kernel⟩
abbrev s_deed_of : Stmt := topS 17
abbrev N_deed_of : List Str := ["text", "words"]
theorem sc_deed_of : FnScope N_deed_of ["text"] (defScope s_deed_of) := ⟨rfl, rfl, rfl, by decide +kernel, rfl, by decide +kernel, by decide +kernel⟩
abbrev s_page_text : Stmt := topS 18
abbrev N_page_text : List Str := ["deeds", "deed"]
theorem sc_page_text : FnScope N_page_text ["deeds"] (defScope s_page_text) := ⟨rfl, rfl, rfl, by decide +kernel, rfl, by decide +kernel, by decide +kernel⟩
abbrev s_page_deeds : Stmt := topS 19
abbrev N_page_deeds : List Str := ["text", "lines", "line"]
theorem sc_page_deeds : FnScope N_page_deeds ["text"] (defScope s_page_deeds) := ⟨rfl, rfl, rfl, by decide +kernel, rfl, by decide +kernel, by decide +kernel⟩
abbrev s_joined : Stmt := topS 20
abbrev N_joined : List Str := ["words", "word"]
theorem sc_joined : FnScope N_joined ["words"] (defScope s_joined) := ⟨rfl, rfl, rfl, by decide +kernel, rfl, by decide +kernel, by decide +kernel⟩
abbrev s_found_of : Stmt := topS 21
abbrev N_found_of : List Str := ["words", "circle", "stake", "seats", "at"]
theorem sc_found_of : FnScope N_found_of ["words"] (defScope s_found_of) := ⟨rfl, rfl, rfl, by decide +kernel, rfl, by decide +kernel, by decide +kernel⟩
abbrev s_read_words : Stmt := topS 22
abbrev N_read_words : List Str := ["words", "form", "word", "sign"]
theorem sc_read_words : FnScope N_read_words ["words", "form"] (defScope s_read_words) := ⟨rfl, rfl, rfl, by decide +kernel, rfl, by decide +kernel, by decide +kernel⟩
abbrev s_read_name : Stmt := topS 23
abbrev N_read_name : List Str := ["word"]
theorem sc_read_name : FnScope N_read_name ["word"] (defScope s_read_name) := ⟨rfl, rfl, rfl, by decide +kernel, rfl, by decide +kernel, by decide +kernel⟩
abbrev s_read_number : Stmt := topS 24
abbrev N_read_number : List Str := ["word", "sign"]
theorem sc_read_number : FnScope N_read_number ["word"] (defScope s_read_number) := ⟨rfl, rfl, rfl, by decide +kernel, rfl, by decide +kernel, by decide +kernel⟩
abbrev s__law_draws : Stmt := topS 26
abbrev N__law_draws : List Str := ["_law_script", "_law_many", "_law_rows", "_law_mix", "_law_cell", "_law_rest"]
theorem sc__law_draws : FnScope N__law_draws ["_law_script", "_law_many"] (defScope s__law_draws) := ⟨rfl, rfl, rfl, by decide +kernel, rfl, by decide +kernel, by decide +kernel⟩
abbrev s__law_same : Stmt := topS 27
abbrev N__law_same : List Str := ["_law_told", "_law_due", "_law_one", "_law_other"]
theorem sc__law_same : FnScope N__law_same ["_law_told", "_law_due"] (defScope s__law_same) := ⟨rfl, rfl, rfl, by decide +kernel, rfl, by decide +kernel, by decide +kernel⟩
abbrev s__law_names : Stmt := topS 28
abbrev N__law_names : List Str := ["_law_some", "_law_many", "_law_letters", "_law_rows", "_law_at", "_law_raw", "_law_size", "_law_turn", "_law_word", "_law_place", "_law_step", "_law_sign", "_law_k"]
theorem sc__law_names : FnScope N__law_names ["_law_some", "_law_many"] (defScope s__law_names) := ⟨rfl, rfl, rfl, by decide +kernel, rfl, by decide +kernel, by decide +kernel⟩
abbrev s__law_number : Stmt := topS 29
abbrev N__law_number : List Str := ["_law_raw"]
theorem sc__law_number : FnScope N__law_number ["_law_raw"] (defScope s__law_number) := ⟨rfl, rfl, rfl, by decide +kernel, rfl, by decide +kernel, by decide +kernel⟩
abbrev s__law_deed : Stmt := topS 30
abbrev N__law_deed : List Str := ["_law_some", "_law_people", "_law_word", "_law_seats", "_law_at"]
theorem sc__law_deed : FnScope N__law_deed ["_law_some"] (defScope s__law_deed) := ⟨rfl, rfl, rfl, by decide +kernel, rfl, by decide +kernel, by decide +kernel⟩
abbrev s__law_is_name : Stmt := topS 31
abbrev N__law_is_name : List Str := ["_law_word", "_law_sign"]
theorem sc__law_is_name : FnScope N__law_is_name ["_law_word"] (defScope s__law_is_name) := ⟨rfl, rfl, rfl, by decide +kernel, rfl, by decide +kernel, by decide +kernel⟩
abbrev s__law_is_number : Stmt := topS 32
abbrev N__law_is_number : List Str := ["_law_word", "_law_sign"]
theorem sc__law_is_number : FnScope N__law_is_number ["_law_word"] (defScope s__law_is_number) := ⟨rfl, rfl, rfl, by decide +kernel, rfl, by decide +kernel, by decide +kernel⟩
abbrev s__law_shape : Stmt := topS 33
abbrev N__law_shape : List Str := ["_law_words", "_law_shapes"]
theorem sc__law_shape : FnScope N__law_shape ["_law_words"] (defScope s__law_shape) := ⟨rfl, rfl, rfl, by decide +kernel, rfl, by decide +kernel, by decide +kernel⟩
abbrev s__law_read : Stmt := topS 34
abbrev N__law_read : List Str := ["_law_line_here", "_law_words", "_law_shape_here", "_law_parts", "_law_kind", "_law_word", "_law_seats", "_law_at"]
theorem sc__law_read : FnScope N__law_read ["_law_line_here"] (defScope s__law_read) := ⟨rfl, rfl, rfl, by decide +kernel, rfl, by decide +kernel, by decide +kernel⟩
abbrev s__law_line : Stmt := topS 35
abbrev N__law_line : List Str := ["_law_deed_here", "_law_words", "_law_name", "_law_pledge", "_law_wish", "_law_part"]
theorem sc__law_line : FnScope N__law_line ["_law_deed_here"] (defScope s__law_line) := ⟨rfl, rfl, rfl, by decide +kernel, rfl, by decide +kernel, by decide +kernel⟩
abbrev s__law_spoilt : Stmt := topS 36
abbrev N__law_spoilt : List Str := ["_law_page", "_law_way", "_law_at", "_law_lines", "_law_here", "_law_place"]
theorem sc__law_spoilt : FnScope N__law_spoilt ["_law_page", "_law_way", "_law_at"] (defScope s__law_spoilt) := ⟨rfl, rfl, rfl, by decide +kernel, rfl, by decide +kernel, by decide +kernel⟩
abbrev s__law_all_read : Stmt := topS 37
abbrev N__law_all_read : List Str := ["_law_page", "_law_lines", "_law_rows", "_law_line_here", "_law_row"]
theorem sc__law_all_read : FnScope N__law_all_read ["_law_page"] (defScope s__law_all_read) := ⟨rfl, rfl, rfl, by decide +kernel, rfl, by decide +kernel, by decide +kernel⟩
abbrev s_law : Stmt := topS 38
abbrev N_law : List Str := ["_law_script", "_law_some", "_law_deeds", "_law_page", "_law_lent", "_law_due", "_law_marks", "_law_told", "e", "_law_at", "_law_deed_here"]
theorem sc_law : FnScope N_law ["_law_script"] (defScope s_law) := ⟨rfl, rfl, rfl, by decide +kernel, rfl, by decide +kernel, by decide +kernel⟩
/-- a def of the text, and a method -/
structure FnI (K : PySem.W.Frag) (x qual : Str) (st : Stmt) (ps : List Str) where
  f : Addr
  fd : FuncData
  F : Fun K x qual st f fd
  b : Binds K fd ps []
structure FnD (K : PySem.W.Frag) (x qual : Str) (st : Stmt) (ps : List Str) (dvs : List V) where
  f : Addr
  fd : FuncData
  F : FunD K x qual (defArgs st) (defBody st) (defScope st) dvs [] f fd
  b : Binds K fd ps []
  bd : ∃ ds, Vals dvs ds ∧ Binds K fd ps ds
structure MtI (K : PySem.W.Frag) (C : Addr) (x qual : Str) (st : Stmt) (ps : List Str) extends FnI K x qual st ps where
  mt : Meth K C x f
set_option maxHeartbeats 4000000 in
structure Top (K : PySem.W.Frag) (mg : Str → Option Value) where
  d_is_name : FnI K "is_name" "is_name" s_is_name ["text"]
  m_is_name : mg "is_name" = some (.ref d_is_name.f)
  d_deed_text : FnI K "deed_text" "deed_text" s_deed_text ["deed"]
  m_deed_text : mg "deed_text" = some (.ref d_deed_text.f)
  d_deed_of : FnI K "deed_of" "deed_of" s_deed_of ["text"]
  m_deed_of : mg "deed_of" = some (.ref d_deed_of.f)
  d_page_text : FnI K "page_text" "page_text" s_page_text ["deeds"]
  m_page_text : mg "page_text" = some (.ref d_page_text.f)
  d_page_deeds : FnI K "page_deeds" "page_deeds" s_page_deeds ["text"]
  m_page_deeds : mg "page_deeds" = some (.ref d_page_deeds.f)
  d_joined : FnI K "joined" "joined" s_joined ["words"]
  m_joined : mg "joined" = some (.ref d_joined.f)
  d_found_of : FnI K "found_of" "found_of" s_found_of ["words"]
  m_found_of : mg "found_of" = some (.ref d_found_of.f)
  d_read_words : FnI K "read_words" "read_words" s_read_words ["words", "form"]
  m_read_words : mg "read_words" = some (.ref d_read_words.f)
  d_read_name : FnI K "read_name" "read_name" s_read_name ["word"]
  m_read_name : mg "read_name" = some (.ref d_read_name.f)
  d_read_number : FnI K "read_number" "read_number" s_read_number ["word"]
  m_read_number : mg "read_number" = some (.ref d_read_number.f)
  d__law_draws : FnI K "_law_draws" "_law_draws" s__law_draws ["_law_script", "_law_many"]
  m__law_draws : mg "_law_draws" = some (.ref d__law_draws.f)
  d__law_same : FnI K "_law_same" "_law_same" s__law_same ["_law_told", "_law_due"]
  m__law_same : mg "_law_same" = some (.ref d__law_same.f)
  d__law_names : FnI K "_law_names" "_law_names" s__law_names ["_law_some", "_law_many"]
  m__law_names : mg "_law_names" = some (.ref d__law_names.f)
  d__law_number : FnI K "_law_number" "_law_number" s__law_number ["_law_raw"]
  m__law_number : mg "_law_number" = some (.ref d__law_number.f)
  d__law_deed : FnI K "_law_deed" "_law_deed" s__law_deed ["_law_some"]
  m__law_deed : mg "_law_deed" = some (.ref d__law_deed.f)
  d__law_is_name : FnI K "_law_is_name" "_law_is_name" s__law_is_name ["_law_word"]
  m__law_is_name : mg "_law_is_name" = some (.ref d__law_is_name.f)
  d__law_is_number : FnI K "_law_is_number" "_law_is_number" s__law_is_number ["_law_word"]
  m__law_is_number : mg "_law_is_number" = some (.ref d__law_is_number.f)
  d__law_shape : FnI K "_law_shape" "_law_shape" s__law_shape ["_law_words"]
  m__law_shape : mg "_law_shape" = some (.ref d__law_shape.f)
  d__law_read : FnI K "_law_read" "_law_read" s__law_read ["_law_line_here"]
  m__law_read : mg "_law_read" = some (.ref d__law_read.f)
  d__law_line : FnI K "_law_line" "_law_line" s__law_line ["_law_deed_here"]
  m__law_line : mg "_law_line" = some (.ref d__law_line.f)
  d__law_spoilt : FnI K "_law_spoilt" "_law_spoilt" s__law_spoilt ["_law_page", "_law_way", "_law_at"]
  m__law_spoilt : mg "_law_spoilt" = some (.ref d__law_spoilt.f)
  d__law_all_read : FnI K "_law_all_read" "_law_all_read" s__law_all_read ["_law_page"]
  m__law_all_read : mg "_law_all_read" = some (.ref d__law_all_read.f)
  d_law : FnI K "law" "law" s_law ["_law_script"]
  m_law : mg "law" = some (.ref d_law.f)
  m_ValueError : mg "ValueError" = none
  m_abs : mg "abs" = none
  m_all : mg "all" = none
  m_bool : mg "bool" = none
  m_int : mg "int" = none
  m_isinstance : mg "isinstance" = none
  m_len : mg "len" = none
  m_list : mg "list" = none
  m_range : mg "range" = none
  m_str : mg "str" = none
  m_tuple : mg "tuple" = none
  m_zip : mg "zip" = none
  f_SusuError : Addr
  m_SusuError : mg "SusuError" = some (.ref f_SusuError)
  f_BadName : Addr
  m_BadName : mg "BadName" = some (.ref f_BadName)
  f_NoDeed : Addr
  m_NoDeed : mg "NoDeed" = some (.ref f_NoDeed)
  x_NoDeed : PySem.W.excIn K f_NoDeed vErr "ValueError.__new__" = true
  kp_NoDeed : PySem.W.keepIn K (.ref f_NoDeed) = true
  e_NoDeed : ExcC K f_NoDeed
  su_NoDeed_SusuError : PySem.W.subIn K (.ref f_NoDeed) (.ref f_SusuError) = some true
  ki_NoDeed_NoDeed : PySem.W.kitOne K (.ref f_NoDeed) (.ref f_NoDeed) = some true
  ki_NoDeed_ValueError : PySem.W.kitOne K (.ref f_NoDeed) (.type "ValueError") = some true
  ki_NoDeed_BadName : PySem.W.kitOne K (.ref f_NoDeed) (.ref f_BadName) = some false
  sb_NoDeed : PySem.W.subIn K (.ref f_NoDeed) (.type "BaseException") = some true
  ty_NoDeed : PySem.W.typeIn K (.ref f_NoDeed) = some (.type "type")
  sb_SusuError : PySem.W.subIn K (.ref f_SusuError) (.type "BaseException") = some true
  ty_SusuError : PySem.W.typeIn K (.ref f_SusuError) = some (.type "type")
  hd_SusuError : PySem.W.hasDictIn K f_SusuError = true
  f_FORMS : Addr
  m_FORMS : mg "FORMS" = some (.ref f_FORMS)
  t_LETTERS : Tok
  m_LETTERS : mg "LETTERS" = some (.str "abcdefghijklmnopqrstuvwxyz" t_LETTERS)
  t_LONGEST_NAME : Tok
  m_LONGEST_NAME : mg "LONGEST_NAME" = some (.int 12 t_LONGEST_NAME)
  t_FIGURES : Tok
  m_FIGURES : mg "FIGURES" = some (.str "0123456789" t_FIGURES)
  t_MOST_FIGURES : Tok
  m_MOST_FIGURES : mg "MOST_FIGURES" = some (.int 12 t_MOST_FIGURES)
  t_FOUND : Tok
  m_FOUND : mg "FOUND" = some (.str "found" t_FOUND)
  t_PLAIN : Tok
  m_PLAIN : mg "PLAIN" = some (.str "plain" t_PLAIN)
  t_BIDS : Tok
  m_BIDS : mg "BIDS" = some (.str "bids" t_BIDS)
  t_SEAT_WORDS : Tok
  m_SEAT_WORDS : mg "SEAT_WORDS" = some (.int 3 t_SEAT_WORDS)
abbrev Top.f_is_name {K : PySem.W.Frag} {mg : Str → Option Value} (T : Top K mg) : Addr := T.d_is_name.f
abbrev Top.fd_is_name {K : PySem.W.Frag} {mg : Str → Option Value} (T : Top K mg) : FuncData := T.d_is_name.fd
theorem Top.F_is_name {K : PySem.W.Frag} {mg : Str → Option Value} (T : Top K mg) : Fun K "is_name" "is_name" s_is_name T.f_is_name T.fd_is_name := T.d_is_name.F
theorem Top.b_is_name {K : PySem.W.Frag} {mg : Str → Option Value} (T : Top K mg) : Binds K T.fd_is_name ["text"] [] := T.d_is_name.b
abbrev Top.f_deed_text {K : PySem.W.Frag} {mg : Str → Option Value} (T : Top K mg) : Addr := T.d_deed_text.f
abbrev Top.fd_deed_text {K : PySem.W.Frag} {mg : Str → Option Value} (T : Top K mg) : FuncData := T.d_deed_text.fd
theorem Top.F_deed_text {K : PySem.W.Frag} {mg : Str → Option Value} (T : Top K mg) : Fun K "deed_text" "deed_text" s_deed_text T.f_deed_text T.fd_deed_text := T.d_deed_text.F
theorem Top.b_deed_text {K : PySem.W.Frag} {mg : Str → Option Value} (T : Top K mg) : Binds K T.fd_deed_text ["deed"] [] := T.d_deed_text.b
abbrev Top.f_deed_of {K : PySem.W.Frag} {mg : Str → Option Value} (T : Top K mg) : Addr := T.d_deed_of.f
abbrev Top.fd_deed_of {K : PySem.W.Frag} {mg : Str → Option Value} (T : Top K mg) : FuncData := T.d_deed_of.fd
theorem Top.F_deed_of {K : PySem.W.Frag} {mg : Str → Option Value} (T : Top K mg) : Fun K "deed_of" "deed_of" s_deed_of T.f_deed_of T.fd_deed_of := T.d_deed_of.F
theorem Top.b_deed_of {K : PySem.W.Frag} {mg : Str → Option Value} (T : Top K mg) : Binds K T.fd_deed_of ["text"] [] := T.d_deed_of.b
abbrev Top.f_page_text {K : PySem.W.Frag} {mg : Str → Option Value} (T : Top K mg) : Addr := T.d_page_text.f
abbrev Top.fd_page_text {K : PySem.W.Frag} {mg : Str → Option Value} (T : Top K mg) : FuncData := T.d_page_text.fd
theorem Top.F_page_text {K : PySem.W.Frag} {mg : Str → Option Value} (T : Top K mg) : Fun K "page_text" "page_text" s_page_text T.f_page_text T.fd_page_text := T.d_page_text.F
theorem Top.b_page_text {K : PySem.W.Frag} {mg : Str → Option Value} (T : Top K mg) : Binds K T.fd_page_text ["deeds"] [] := T.d_page_text.b
abbrev Top.f_page_deeds {K : PySem.W.Frag} {mg : Str → Option Value} (T : Top K mg) : Addr := T.d_page_deeds.f
abbrev Top.fd_page_deeds {K : PySem.W.Frag} {mg : Str → Option Value} (T : Top K mg) : FuncData := T.d_page_deeds.fd
theorem Top.F_page_deeds {K : PySem.W.Frag} {mg : Str → Option Value} (T : Top K mg) : Fun K "page_deeds" "page_deeds" s_page_deeds T.f_page_deeds T.fd_page_deeds := T.d_page_deeds.F
theorem Top.b_page_deeds {K : PySem.W.Frag} {mg : Str → Option Value} (T : Top K mg) : Binds K T.fd_page_deeds ["text"] [] := T.d_page_deeds.b
abbrev Top.f_joined {K : PySem.W.Frag} {mg : Str → Option Value} (T : Top K mg) : Addr := T.d_joined.f
abbrev Top.fd_joined {K : PySem.W.Frag} {mg : Str → Option Value} (T : Top K mg) : FuncData := T.d_joined.fd
theorem Top.F_joined {K : PySem.W.Frag} {mg : Str → Option Value} (T : Top K mg) : Fun K "joined" "joined" s_joined T.f_joined T.fd_joined := T.d_joined.F
theorem Top.b_joined {K : PySem.W.Frag} {mg : Str → Option Value} (T : Top K mg) : Binds K T.fd_joined ["words"] [] := T.d_joined.b
abbrev Top.f_found_of {K : PySem.W.Frag} {mg : Str → Option Value} (T : Top K mg) : Addr := T.d_found_of.f
abbrev Top.fd_found_of {K : PySem.W.Frag} {mg : Str → Option Value} (T : Top K mg) : FuncData := T.d_found_of.fd
theorem Top.F_found_of {K : PySem.W.Frag} {mg : Str → Option Value} (T : Top K mg) : Fun K "found_of" "found_of" s_found_of T.f_found_of T.fd_found_of := T.d_found_of.F
theorem Top.b_found_of {K : PySem.W.Frag} {mg : Str → Option Value} (T : Top K mg) : Binds K T.fd_found_of ["words"] [] := T.d_found_of.b
abbrev Top.f_read_words {K : PySem.W.Frag} {mg : Str → Option Value} (T : Top K mg) : Addr := T.d_read_words.f
abbrev Top.fd_read_words {K : PySem.W.Frag} {mg : Str → Option Value} (T : Top K mg) : FuncData := T.d_read_words.fd
theorem Top.F_read_words {K : PySem.W.Frag} {mg : Str → Option Value} (T : Top K mg) : Fun K "read_words" "read_words" s_read_words T.f_read_words T.fd_read_words := T.d_read_words.F
theorem Top.b_read_words {K : PySem.W.Frag} {mg : Str → Option Value} (T : Top K mg) : Binds K T.fd_read_words ["words", "form"] [] := T.d_read_words.b
abbrev Top.f_read_name {K : PySem.W.Frag} {mg : Str → Option Value} (T : Top K mg) : Addr := T.d_read_name.f
abbrev Top.fd_read_name {K : PySem.W.Frag} {mg : Str → Option Value} (T : Top K mg) : FuncData := T.d_read_name.fd
theorem Top.F_read_name {K : PySem.W.Frag} {mg : Str → Option Value} (T : Top K mg) : Fun K "read_name" "read_name" s_read_name T.f_read_name T.fd_read_name := T.d_read_name.F
theorem Top.b_read_name {K : PySem.W.Frag} {mg : Str → Option Value} (T : Top K mg) : Binds K T.fd_read_name ["word"] [] := T.d_read_name.b
abbrev Top.f_read_number {K : PySem.W.Frag} {mg : Str → Option Value} (T : Top K mg) : Addr := T.d_read_number.f
abbrev Top.fd_read_number {K : PySem.W.Frag} {mg : Str → Option Value} (T : Top K mg) : FuncData := T.d_read_number.fd
theorem Top.F_read_number {K : PySem.W.Frag} {mg : Str → Option Value} (T : Top K mg) : Fun K "read_number" "read_number" s_read_number T.f_read_number T.fd_read_number := T.d_read_number.F
theorem Top.b_read_number {K : PySem.W.Frag} {mg : Str → Option Value} (T : Top K mg) : Binds K T.fd_read_number ["word"] [] := T.d_read_number.b
abbrev Top.f__law_draws {K : PySem.W.Frag} {mg : Str → Option Value} (T : Top K mg) : Addr := T.d__law_draws.f
abbrev Top.fd__law_draws {K : PySem.W.Frag} {mg : Str → Option Value} (T : Top K mg) : FuncData := T.d__law_draws.fd
theorem Top.F__law_draws {K : PySem.W.Frag} {mg : Str → Option Value} (T : Top K mg) : Fun K "_law_draws" "_law_draws" s__law_draws T.f__law_draws T.fd__law_draws := T.d__law_draws.F
theorem Top.b__law_draws {K : PySem.W.Frag} {mg : Str → Option Value} (T : Top K mg) : Binds K T.fd__law_draws ["_law_script", "_law_many"] [] := T.d__law_draws.b
abbrev Top.f__law_same {K : PySem.W.Frag} {mg : Str → Option Value} (T : Top K mg) : Addr := T.d__law_same.f
abbrev Top.fd__law_same {K : PySem.W.Frag} {mg : Str → Option Value} (T : Top K mg) : FuncData := T.d__law_same.fd
theorem Top.F__law_same {K : PySem.W.Frag} {mg : Str → Option Value} (T : Top K mg) : Fun K "_law_same" "_law_same" s__law_same T.f__law_same T.fd__law_same := T.d__law_same.F
theorem Top.b__law_same {K : PySem.W.Frag} {mg : Str → Option Value} (T : Top K mg) : Binds K T.fd__law_same ["_law_told", "_law_due"] [] := T.d__law_same.b
abbrev Top.f__law_names {K : PySem.W.Frag} {mg : Str → Option Value} (T : Top K mg) : Addr := T.d__law_names.f
abbrev Top.fd__law_names {K : PySem.W.Frag} {mg : Str → Option Value} (T : Top K mg) : FuncData := T.d__law_names.fd
theorem Top.F__law_names {K : PySem.W.Frag} {mg : Str → Option Value} (T : Top K mg) : Fun K "_law_names" "_law_names" s__law_names T.f__law_names T.fd__law_names := T.d__law_names.F
theorem Top.b__law_names {K : PySem.W.Frag} {mg : Str → Option Value} (T : Top K mg) : Binds K T.fd__law_names ["_law_some", "_law_many"] [] := T.d__law_names.b
abbrev Top.f__law_number {K : PySem.W.Frag} {mg : Str → Option Value} (T : Top K mg) : Addr := T.d__law_number.f
abbrev Top.fd__law_number {K : PySem.W.Frag} {mg : Str → Option Value} (T : Top K mg) : FuncData := T.d__law_number.fd
theorem Top.F__law_number {K : PySem.W.Frag} {mg : Str → Option Value} (T : Top K mg) : Fun K "_law_number" "_law_number" s__law_number T.f__law_number T.fd__law_number := T.d__law_number.F
theorem Top.b__law_number {K : PySem.W.Frag} {mg : Str → Option Value} (T : Top K mg) : Binds K T.fd__law_number ["_law_raw"] [] := T.d__law_number.b
abbrev Top.f__law_deed {K : PySem.W.Frag} {mg : Str → Option Value} (T : Top K mg) : Addr := T.d__law_deed.f
abbrev Top.fd__law_deed {K : PySem.W.Frag} {mg : Str → Option Value} (T : Top K mg) : FuncData := T.d__law_deed.fd
theorem Top.F__law_deed {K : PySem.W.Frag} {mg : Str → Option Value} (T : Top K mg) : Fun K "_law_deed" "_law_deed" s__law_deed T.f__law_deed T.fd__law_deed := T.d__law_deed.F
theorem Top.b__law_deed {K : PySem.W.Frag} {mg : Str → Option Value} (T : Top K mg) : Binds K T.fd__law_deed ["_law_some"] [] := T.d__law_deed.b
abbrev Top.f__law_is_name {K : PySem.W.Frag} {mg : Str → Option Value} (T : Top K mg) : Addr := T.d__law_is_name.f
abbrev Top.fd__law_is_name {K : PySem.W.Frag} {mg : Str → Option Value} (T : Top K mg) : FuncData := T.d__law_is_name.fd
theorem Top.F__law_is_name {K : PySem.W.Frag} {mg : Str → Option Value} (T : Top K mg) : Fun K "_law_is_name" "_law_is_name" s__law_is_name T.f__law_is_name T.fd__law_is_name := T.d__law_is_name.F
theorem Top.b__law_is_name {K : PySem.W.Frag} {mg : Str → Option Value} (T : Top K mg) : Binds K T.fd__law_is_name ["_law_word"] [] := T.d__law_is_name.b
abbrev Top.f__law_is_number {K : PySem.W.Frag} {mg : Str → Option Value} (T : Top K mg) : Addr := T.d__law_is_number.f
abbrev Top.fd__law_is_number {K : PySem.W.Frag} {mg : Str → Option Value} (T : Top K mg) : FuncData := T.d__law_is_number.fd
theorem Top.F__law_is_number {K : PySem.W.Frag} {mg : Str → Option Value} (T : Top K mg) : Fun K "_law_is_number" "_law_is_number" s__law_is_number T.f__law_is_number T.fd__law_is_number := T.d__law_is_number.F
theorem Top.b__law_is_number {K : PySem.W.Frag} {mg : Str → Option Value} (T : Top K mg) : Binds K T.fd__law_is_number ["_law_word"] [] := T.d__law_is_number.b
abbrev Top.f__law_shape {K : PySem.W.Frag} {mg : Str → Option Value} (T : Top K mg) : Addr := T.d__law_shape.f
abbrev Top.fd__law_shape {K : PySem.W.Frag} {mg : Str → Option Value} (T : Top K mg) : FuncData := T.d__law_shape.fd
theorem Top.F__law_shape {K : PySem.W.Frag} {mg : Str → Option Value} (T : Top K mg) : Fun K "_law_shape" "_law_shape" s__law_shape T.f__law_shape T.fd__law_shape := T.d__law_shape.F
theorem Top.b__law_shape {K : PySem.W.Frag} {mg : Str → Option Value} (T : Top K mg) : Binds K T.fd__law_shape ["_law_words"] [] := T.d__law_shape.b
abbrev Top.f__law_read {K : PySem.W.Frag} {mg : Str → Option Value} (T : Top K mg) : Addr := T.d__law_read.f
abbrev Top.fd__law_read {K : PySem.W.Frag} {mg : Str → Option Value} (T : Top K mg) : FuncData := T.d__law_read.fd
theorem Top.F__law_read {K : PySem.W.Frag} {mg : Str → Option Value} (T : Top K mg) : Fun K "_law_read" "_law_read" s__law_read T.f__law_read T.fd__law_read := T.d__law_read.F
theorem Top.b__law_read {K : PySem.W.Frag} {mg : Str → Option Value} (T : Top K mg) : Binds K T.fd__law_read ["_law_line_here"] [] := T.d__law_read.b
abbrev Top.f__law_line {K : PySem.W.Frag} {mg : Str → Option Value} (T : Top K mg) : Addr := T.d__law_line.f
abbrev Top.fd__law_line {K : PySem.W.Frag} {mg : Str → Option Value} (T : Top K mg) : FuncData := T.d__law_line.fd
theorem Top.F__law_line {K : PySem.W.Frag} {mg : Str → Option Value} (T : Top K mg) : Fun K "_law_line" "_law_line" s__law_line T.f__law_line T.fd__law_line := T.d__law_line.F
theorem Top.b__law_line {K : PySem.W.Frag} {mg : Str → Option Value} (T : Top K mg) : Binds K T.fd__law_line ["_law_deed_here"] [] := T.d__law_line.b
abbrev Top.f__law_spoilt {K : PySem.W.Frag} {mg : Str → Option Value} (T : Top K mg) : Addr := T.d__law_spoilt.f
abbrev Top.fd__law_spoilt {K : PySem.W.Frag} {mg : Str → Option Value} (T : Top K mg) : FuncData := T.d__law_spoilt.fd
theorem Top.F__law_spoilt {K : PySem.W.Frag} {mg : Str → Option Value} (T : Top K mg) : Fun K "_law_spoilt" "_law_spoilt" s__law_spoilt T.f__law_spoilt T.fd__law_spoilt := T.d__law_spoilt.F
theorem Top.b__law_spoilt {K : PySem.W.Frag} {mg : Str → Option Value} (T : Top K mg) : Binds K T.fd__law_spoilt ["_law_page", "_law_way", "_law_at"] [] := T.d__law_spoilt.b
abbrev Top.f__law_all_read {K : PySem.W.Frag} {mg : Str → Option Value} (T : Top K mg) : Addr := T.d__law_all_read.f
abbrev Top.fd__law_all_read {K : PySem.W.Frag} {mg : Str → Option Value} (T : Top K mg) : FuncData := T.d__law_all_read.fd
theorem Top.F__law_all_read {K : PySem.W.Frag} {mg : Str → Option Value} (T : Top K mg) : Fun K "_law_all_read" "_law_all_read" s__law_all_read T.f__law_all_read T.fd__law_all_read := T.d__law_all_read.F
theorem Top.b__law_all_read {K : PySem.W.Frag} {mg : Str → Option Value} (T : Top K mg) : Binds K T.fd__law_all_read ["_law_page"] [] := T.d__law_all_read.b
abbrev Top.f_law {K : PySem.W.Frag} {mg : Str → Option Value} (T : Top K mg) : Addr := T.d_law.f
abbrev Top.fd_law {K : PySem.W.Frag} {mg : Str → Option Value} (T : Top K mg) : FuncData := T.d_law.fd
theorem Top.F_law {K : PySem.W.Frag} {mg : Str → Option Value} (T : Top K mg) : Fun K "law" "law" s_law T.f_law T.fd_law := T.d_law.F
theorem Top.b_law {K : PySem.W.Frag} {mg : Str → Option Value} (T : Top K mg) : Binds K T.fd_law ["_law_script"] [] := T.d_law.b
end Su
namespace Su
/-! ### rules whose written part is named, for blocks -/
section
variable {X : Cx} {K : PySem.W.Frag}
theorem ix_listK (h : X.K = K := by rfl) : IxR X (rIxL K) := h ▸ ix_list
theorem ix_tupK (h : X.K = K := by rfl) : IxR X (rIxT K) := h ▸ ix_tup
theorem sl_listK (h : X.K = K := by rfl) : SlR X (rSlL K) := h ▸ sl_list
theorem call_len_seqK (h : X.K = K := by rfl) : CallR X (.builtin "len") (fun xs H Q => ∃ p ys, xs = [.ref p] ∧ (SqL K H p ys ∨ SqT K H p ys) ∧ Q (.int ys.length) H) := h ▸ call_len_seq
theorem op_in_seqK (h : X.K = K := by rfl) : OpR X (compareOp .In) (rIn K false) := h ▸ op_in_seq
theorem op_notIn_seqK (h : X.K = K := by rfl) : OpR X (compareOp .NotIn) (rIn K true) := h ▸ op_notIn_seq
theorem call_list_ofK (h : X.K = K := by rfl) : CallR X (.type "list") (fun xs H Q => ∃ p ys, xs = [.ref p] ∧ (SqL K H p ys ∨ SqT K H p ys) ∧ ∀ l, H l = none → Q (.ref l) (upd H l (.lst ys))) := h ▸ call_list_of
theorem call_isiK' (h : X.K = K := by rfl) : CallR X (.builtin "isinstance") (rIsi K) := h ▸ call_isi
end

end Su
namespace Su
theorem chain_le' {σ : L2.St} {H : Hp} {ta tb tc : TE} {a b c : Int} (h1 : Ev ta σ H (.int a)) (h2 : Ev tb σ H (.int b)) (h3 : Ev tc σ H (.int c)) :
    Ev (tChain (rI0 fun i j => .bl (decide (i ≤ j))) (rI0 fun i j => .bl (decide (i ≤ j))) ta tb tc) σ H (.bl (decide (a ≤ b) && decide (b ≤ c))) := fun H1 e Q q =>
  h1 H1 e _ fun H2 e2 => h2 H2 (e.trans e2) _ fun H3 e3 => ⟨a, b, rfl, rfl, decide (a ≤ b), rfl, by
    cases hd : decide (a ≤ b) with
    | true =>
      show tc σ H3 _
      exact h3 H3 ((e.trans e2).trans e3) _ fun H4 e4 => ⟨b, c, rfl, rfl, by rw [hd] at q; exact q H4 ((e2.trans e3).trans e4)⟩
    | false =>
      rw [hd] at q
      exact q H3 (e2.trans e3)⟩
theorem chain_le {σ : L2.St} {H : Hp} {ta tb tc : TE} {a b c : Int} (h1 : Ev ta σ H (.int a)) (h2 : Ev tb σ H (.int b)) (h3 : Ev tc σ H (.int c)) :
    EvT (tTest (tChain (rI0 fun i j => .bl (decide (i ≤ j))) (rI0 fun i j => .bl (decide (i ≤ j))) ta tb tc)) σ H (decide (a ≤ b) && decide (b ≤ c)) := fun H1 e Q q =>
  h1 H1 e _ fun H2 e2 => h2 H2 (e.trans e2) _ fun H3 e3 => ⟨a, b, rfl, rfl, decide (a ≤ b), rfl, by
    cases hd : decide (a ≤ b) with
    | true =>
      show tc σ H3 _
      exact h3 H3 ((e.trans e2).trans e3) _ fun H4 e4 => ⟨b, c, rfl, rfl, decide (b ≤ c), rfl, by rw [hd] at q; exact q H4 ((e2.trans e3).trans e4)⟩
    | false =>
      rw [hd] at q
      exact ⟨false, rfl, q H3 (e2.trans e3)⟩⟩
theorem et_chain {f g : Int → Int → Bool} {σ : L2.St} {H : Hp} {ta tb tc : TE} {a b c : Int} (h1 : Ev ta σ H (.int a)) (h2 : Ev tb σ H (.int b)) (h3 : Ev tc σ H (.int c)) :
    EvT (tTest (tChain (rI0 fun i j => .bl (f i j)) (rI0 fun i j => .bl (g i j)) ta tb tc)) σ H (f a b && g b c) := fun H1 e Q q =>
  h1 H1 e _ fun H2 e2 => h2 H2 (e.trans e2) _ fun H3 e3 => ⟨a, b, rfl, rfl, f a b, rfl, by
    cases hd : f a b with
    | true =>
      show tc σ H3 _
      exact h3 H3 ((e.trans e2).trans e3) _ fun H4 e4 => ⟨b, c, rfl, rfl, g b c, rfl, by rw [hd] at q; exact q H4 ((e2.trans e3).trans e4)⟩
    | false =>
      rw [hd] at q
      exact ⟨false, rfl, q H3 (e2.trans e3)⟩⟩

end Su
namespace Su
/-! ### the drawn numbers -/
def Rows (m : Nat) (rows : List Int) : Prop := m ≤ rows.length ∧ rows.length ≤ m + 63 ∧ ∀ x ∈ rows, -(10 ^ 18) < x ∧ x < 10 ^ 18
theorem Rows.add {rows : List Int} {x : Int} (h : ∀ x ∈ rows, -(10 ^ 18) < x ∧ x < 10 ^ 18) (h1 : -(10 ^ 18) < x) (h2 : x < 10 ^ 18) : ∀ y ∈ rows ++ [x], -(10 ^ 18) < y ∧ y < 10 ^ 18 := fun y hy => by
  rcases List.mem_append.mp hy with h' | h'
  · exact h y h'
  · obtain rfl := List.mem_singleton.mp h'
    exact ⟨h1, h2⟩
theorem Rows.get {m : Nat} {rows : List Int} (h : Rows m rows) (i : Nat) : -(10 ^ 18) < rows.getD i 0 ∧ rows.getD i 0 < 10 ^ 18 := by
  by_cases hi : i < rows.length
  · rw [List.getD_eq_getElem?_getD, List.getElem?_eq_getElem hi]
    exact h.2.2 _ (List.getElem_mem hi)
  · rw [List.getD_eq_getElem?_getD, List.getElem?_eq_none (by omega)]
    decide
section
variable {P : Program} {w : World} {K : PySem.W.Frag} {mg : Str → Option Value} {base : Heap}
def spDraws (K : PySem.W.Frag) : Sp := fun vs H Q _ => ∃ (a : Addr) (ns : List Int) (m : Nat), vs = [.ref a, .int (m : Int)] ∧ SqL K H a (ns.map V.int) ∧ ns.length ≤ 63 ∧ m ≤ 1000 ∧
  ∀ rows H' p, H p = none → Ex H H' → H' p = some (.lst (rows.map V.int)) → Rows m rows → Q (.ref p) H'
theorem spN_draws {K : PySem.W.Frag} {a : Addr} {ns : List Int} {m : Nat} {H : Hp} (hS : SqL K H a (ns.map V.int)) (hl : ns.length ≤ 63) (hm : m ≤ 1000) : SpN (spDraws K) [.ref a, .int (m : Int)] H (fun xs => ∃ rows : List Int, Rows m rows ∧ xs = rows.map V.int) :=
  fun H1 e Q q E => ⟨a, ns, m, rfl, ex_l e hS, hl, hm, fun rows H' p hp e' h' hr => q _ p H' ⟨rows, hr, rfl⟩ hp e' h'⟩
def DrI (H0 : Hp) (a p : Addr) (m i : Nat) (σ : L2.St) (H : Hp) : Prop := ∃ (rows : List Int) (mix : Int) (y4 y5 : Option V), σ = [some (.ref a), some (.int (m : Int)), some (.ref p), some (.int mix), y4, y5] ∧ Ex H0 H ∧ H p = some (.lst (rows.map V.int)) ∧
  rows.length ≤ m + i ∧ 0 ≤ mix ∧ mix < 2147483647 ∧ ∀ x ∈ rows, -(10 ^ 18) < x ∧ x < 10 ^ 18
theorem ok__law_draws {f : Addr} {fd : FuncData} {k : Nat} (F : Fun K "_law_draws" "_law_draws" s__law_draws f fd) (T : Top K mg) : FnOk P w K mg base CX0 (k + 1) f fd ["_law_script", "_law_many"] (spDraws K) := by
  have nd := sc__law_draws.nd
  refine F.ok sc__law_draws (fun vs H Q E h => ?_) (fun cdv A outer s H vs Q E hr h => ?_)
  · obtain ⟨a, ns, m, rfl, _⟩ := h
    rfl
  · obtain ⟨a, ns, m, rfl, hS, hlen, hm, q⟩ := h
    refine ⟨_, (pss_cons (ps_set (i := 2) nd rfl (.inl rfl) (pe_lst pa_nil))
      (pss_cons (ps_set (i := 3) nd rfl (.inl rfl) pe_int)
      (pss_cons (ps_for PassesOwn.never rfl (pi_list (pv 0)) (pg_name (i := 4) nd rfl (.inl rfl))
        (pss_cons (ps_set (i := 3) nd rfl (.inl rfl) (pe_op op_mod (pe_op op_add (pe_op op_mul (pv 3) pe_int) (pv 4)) pe_int))
          (pss_cons (ps_set (i := 5) nd rfl (.inl rfl) (pe_callB call_abs (by rfl) T.m_abs (by decide +kernel) (pa_cons (pv 4) pa_nil)))
          (pss_cons (ps_if (pt_cmpR op_lt (pv 5) (pe_op op_pow pe_int pe_int) (nomark _))
            (pss_cons (ps_expr (pe_bm PySem.F.plainAttrs_list PySem.F.slot_list_append PySem.F.type_list_append mt_append (pv 2) (pa_cons (pv 4) pa_nil)))
              (pss_one (ps_set (i := 5) nd rfl (.inl rfl) pe_int)))
            pss_nil)
          (pss_one (ps_while PassesOwn.never (PW.pt (pw_and (pt_cmpR op_gt (pv 5) pe_int (nomark _)) (pw_and1 (pt_cmpR op_lt (pe_callB call_len_seq (by rfl) T.m_len PySem.boot_len (pa_cons (pv 2) pa_nil)) (pv 1) (nomark _)))))
            (pss_cons (ps_expr (pe_bm PySem.F.plainAttrs_list PySem.F.slot_list_append PySem.F.type_list_append mt_append (pv 2) (pa_cons (pe_op op_mod (pv 5) pe_int) pa_nil)))
              (pss_one (ps_set (i := 5) nd rfl (.inl rfl) (pe_op op_fdiv (pv 5) pe_int))))))))))
      (pss_cons (ps_while PassesOwn.never (pt_cmpR op_lt (pe_callB call_len_seq (by rfl) T.m_len PySem.boot_len (pa_cons (pv 2) pa_nil)) (pv 1) (nomark _))
        (pss_cons (ps_set (i := 3) nd rfl (.inl rfl) (pe_op op_mod (pe_op op_add (pe_op op_mul (pv 3) pe_int) pe_int) pe_int))
          (pss_one (ps_expr (pe_bm PySem.F.plainAttrs_list PySem.F.slot_list_append PySem.F.type_list_append mt_append (pv 2) (pa_cons (pe_op op_mod (pe_op op_mul (pv 3) (pv 3)) pe_int) pa_nil))))))
      (pss_one (ps_ret (pv 2))))))), ?_⟩
    -- rows = []; mix = 1
    refine q_asgL (el_lst ea_nil (by decide)) fun p H1 hp e1 h1 => ?_
    have hS1 := ex_l e1 hS
    refine q_asg (by walk_at "ev") fun H2 e2 => ?_
    refine q_forL (by walk_at "ev") (ex_l e2 hS1) (DrI H a p m) ?_ ?_ ?_ ?_
    · intro H3 e3
      exact ⟨[], 1, none, none, rfl, (e1.trans e2).trans e3, e3 p _ (e2 p _ h1), Nat.zero_le _, by omega, by omega, fun x hx => by cases hx⟩
    · rintro i σ' H' _ ⟨rows, mix, y4, y5, rfl, ex, _⟩
      exact ex_l ex hS
    · rintro i x σ' H' hx ⟨rows, mix, y4, y5, rfl, ex, hr', hrl, m0, m1, hb⟩
      obtain ⟨c, rfl⟩ : ∃ c : Int, x = .int c := by
        rw [List.getElem?_map] at hx
        cases hc : ns[i]? with
        | none => rw [hc] at hx; cases hx
        | some c => rw [hc] at hx; exact ⟨c, (Option.some.inj hx).symm⟩
      have hi : i < 63 := by
        have := (List.getElem?_eq_some_iff.mp hx).1
        rw [List.length_map] at this
        omega
      refine q_asg (by walk_at "ev") fun H3 e3 => ?_
      have m0' := Int.emod_nonneg (mix * 31 + c) (show (2147483647 : Int) ≠ 0 by decide)
      have m1' := Int.emod_lt_of_pos (mix * 31 + c) (show (0 : Int) < 2147483647 by decide)
      generalize (mix * 31 + c) % 2147483647 = mix' at m0' m1' ⊢
      refine q_asg (by walk_at "ev") fun H4 e4 => ?_
      have hr4 := ex_g e4 (ex_g e3 hr')
      have ex4 := (ex.trans e3).trans e4
      have r0 : 0 ≤ (if c < 0 then -c else c) := by split <;> omega
      have rc : (if c < 0 then -c else c) < 10 ^ 18 → -(10 ^ 18) < c ∧ c < 10 ^ 18 := by split <;> omega
      generalize (if c < 0 then -c else c) = rest at r0 rc ⊢
      -- what stands behind the if: the while
      have hwh : ∀ (rows' : List Int) (rest' : Int) (y4' : Option V) (H5 : Hp), Ex H H5 → H5 p = some (.lst (rows'.map V.int)) → rows'.length ≤ m + (i + 1) → 0 ≤ rest' → (0 < rest' → rows'.length ≤ m + i) → (∀ x ∈ rows', -(10 ^ 18) < x ∧ x < 10 ^ 18) →
          ∀ (tc : TT) (tb : TS) (D : Ends), True → True := fun _ _ _ _ _ _ _ _ _ _ _ _ _ _ => trivial
      clear hwh
      refine q_when (by walk_at "et") (fun hb' H5 e5 => ?_) (fun hb' H5 e5 => ?_)
      · have hlt : rest < 10 ^ 18 := of_decide_eq_true hb'
        obtain ⟨c1, c2⟩ := rc hlt
        refine q_app (ex_g e5 hr4) (by walk_at "ev") (by walk_at "ev") (by rw [List.length_map]; omega) fun H6 e6 => ?_
        refine s_asg (by walk_at "ev") fun H7 e7 => ?_
        have hp7 : H7 p = some (.lst ((rows ++ [c]).map V.int)) := e7 p _ (by rw [upd_same, List.map_append]; rfl)
        have ex7 : Ex H H7 := (ex_up ((ex4.trans e5).trans e6) hp).trans e7
        refine s_while (fun n σ2 H2 => n = 0 ∧ σ2 = [some (.ref a), some (.int (m : Int)), some (.ref p), some (.int mix'), some (.int c), some (.int 0)] ∧ Ex H H2 ∧ H2 p = some (.lst ((rows ++ [c]).map V.int))) 0 ⟨rfl, rfl, ex7, hp7⟩ ?_
        rintro n σ2 H2 ⟨rfl, rfl, ex2, hp2⟩
        refine ⟨_, by walk_at "et", fun hb2 => ?_, fun hb2 H8 e8 => ?_⟩
        · simp at hb2
        · exact ⟨rows ++ [c], mix', _, _, rfl, ex2.trans e8, e8 p _ hp2, by rw [List.length_append]; show rows.length + 1 ≤ _; omega, m0', m1', Rows.add hb c1 c2⟩
      · refine s_while (fun n σ2 H2 => ∃ (rows' : List Int) (rest' : Int), σ2 = [some (.ref a), some (.int (m : Int)), some (.ref p), some (.int mix'), some (.int c), some (.int rest')] ∧ n = rest'.toNat ∧ Ex H H2 ∧ H2 p = some (.lst (rows'.map V.int)) ∧ rows'.length ≤ m + i ∧ 0 ≤ rest' ∧ ∀ x ∈ rows', -(10 ^ 18) < x ∧ x < 10 ^ 18) rest.toNat
          ⟨rows, rest, rfl, rfl, ex4.trans e5, ex_g e5 hr4, hrl, r0, hb⟩ ?_
        rintro n σ2 H2 ⟨rows', rest', rfl, rfl, ex2, hp2, hrl', r0', hb'⟩
        refine ⟨_, by walk_at "et", fun hb2 H8 e8 => ?_, fun hb2 H8 e8 => ?_⟩
        · have hb3 := Bool.and_eq_true_iff.mp hb2
          have hpos : 0 < rest' := of_decide_eq_true hb3.1
          have hlm : ((rows'.map V.int).length : Int) < m := of_decide_eq_true hb3.2
          rw [List.length_map] at hlm
          refine ⟨fun σ3 H3 => ∃ n', n' < rest'.toNat ∧ ∃ (rows' : List Int) (rest' : Int), σ3 = [some (.ref a), some (.int (m : Int)), some (.ref p), some (.int mix'), some (.int c), some (.int rest')] ∧ n' = rest'.toNat ∧ Ex H H3 ∧ H3 p = some (.lst (rows'.map V.int)) ∧ rows'.length ≤ m + i ∧ 0 ≤ rest' ∧ ∀ x ∈ rows', -(10 ^ 18) < x ∧ x < 10 ^ 18, fun _ _ h => h, ?_⟩
          refine q_app (ex_g e8 hp2) (by walk_at "ev") (by walk_at "ev") (by rw [List.length_map]; omega) fun H9 e9 => ?_
          refine s_asg (by walk_at "ev") fun H10 e10 => ?_
          have d0 := Int.emod_nonneg rest' (show (1000003 : Int) ≠ 0 by decide)
          have d1 := Int.emod_lt_of_pos rest' (show (0 : Int) < 1000003 by decide)
          refine ⟨(rest' / 1000003).toNat, by omega, rows' ++ [rest' % 1000003], rest' / 1000003, rfl, rfl, (ex_up ((ex2.trans e8).trans e9) hp).trans e10, e10 p _ (by rw [upd_same, List.map_append]; rfl), ?_, by omega, Rows.add hb' (by omega) (by omega)⟩
          rw [List.length_append]
          show rows'.length + 1 ≤ _
          omega
        · exact ⟨rows', mix', _, _, rfl, ex2.trans e8, e8 p _ hp2, by omega, m0', m1', hb'⟩
    · rintro σ' H' ⟨rows, mix, y4, y5, rfl, ex, hr', hrl, m0, m1, hb⟩
      rw [List.length_map] at hrl
      refine q_while (fun n σ2 H2 => ∃ (rows : List Int) (mix : Int), σ2 = [some (.ref a), some (.int (m : Int)), some (.ref p), some (.int mix), y4, y5] ∧ n = m - rows.length ∧ Ex H H2 ∧ H2 p = some (.lst (rows.map V.int)) ∧ rows.length ≤ m + 63 ∧ 0 ≤ mix ∧ mix < 2147483647 ∧ ∀ x ∈ rows, -(10 ^ 18) < x ∧ x < 10 ^ 18)
        (m - rows.length) ⟨rows, mix, rfl, rfl, ex, hr', by omega, m0, m1, hb⟩ ?_
      rintro n σ2 H2 ⟨rows, mix, rfl, rfl, ex, hr', hrl, m0, m1, hb⟩
      refine ⟨_, by walk_at "et", fun hb2 H8 e8 => ?_, fun hb2 H8 e8 => ?_⟩
      · have hlm : ((rows.map V.int).length : Int) < m := of_decide_eq_true hb2
        rw [List.length_map] at hlm
        refine ⟨fun σ3 H3 => ∃ n', n' < m - rows.length ∧ ∃ (rows : List Int) (mix : Int), σ3 = [some (.ref a), some (.int (m : Int)), some (.ref p), some (.int mix), y4, y5] ∧ n' = m - rows.length ∧ Ex H H3 ∧ H3 p = some (.lst (rows.map V.int)) ∧ rows.length ≤ m + 63 ∧ 0 ≤ mix ∧ mix < 2147483647 ∧ ∀ x ∈ rows, -(10 ^ 18) < x ∧ x < 10 ^ 18, fun _ _ h => h, ?_⟩
        refine q_asg (by walk_at "ev") fun H9 e9 => ?_
        have m0' := Int.emod_nonneg (mix * 48271 + 11) (show (2147483647 : Int) ≠ 0 by decide)
        have m1' := Int.emod_lt_of_pos (mix * 48271 + 11) (show (0 : Int) < 2147483647 by decide)
        generalize (mix * 48271 + 11) % 2147483647 = mix' at m0' m1' ⊢
        refine s_app (ex_g e9 (ex_g e8 hr')) (by walk_at "ev") (by walk_at "ev") (by rw [List.length_map]; omega) fun H10 e10 => ?_
        have d0 := Int.emod_nonneg (mix' * mix') (show (999983 : Int) ≠ 0 by decide)
        have d1 := Int.emod_lt_of_pos (mix' * mix') (show (0 : Int) < 999983 by decide)
        refine ⟨m - (rows.length + 1), by omega, rows ++ [mix' * mix' % 999983], mix', rfl, by rw [List.length_append]; rfl, ex_up (((ex.trans e8).trans e9).trans e10) hp, by rw [upd_same, List.map_append]; rfl, ?_, m0', m1', Rows.add hb (by omega) (by omega)⟩
        rw [List.length_append]
        show rows.length + 1 ≤ _
        omega
      · refine s_ret (by walk_at "ev") fun H9 e9 => ?_
        have hlm : ¬ ((rows.map V.int).length : Int) < m := of_decide_eq_false hb2
        rw [List.length_map] at hlm
        exact q rows H9 p hp ((ex.trans e8).trans e9) (e9 p _ (e8 p _ hr')) ⟨by omega, hrl, hb⟩
end

end Su
namespace Su
/-! ### comprehensions over enumerate and zip -/
def dropAt (H : Hp) (D : Addr) : Hp := fun b => if b = D then none else H b
theorem drop_ex {H : Hp} {D : Addr} : Ex (dropAt H D) H := fun a o e => by
  unfold dropAt at e
  split at e
  · cases e
  · exact e
theorem drop_self {H : Hp} {D : Addr} : dropAt H D D = none := by unfold dropAt; rw [if_pos rfl]
theorem drop_of {H : Hp} {D T : Addr} {o : HO} (e : H T = some o) (n : T ≠ D) : dropAt H D T = some o := by unfold dropAt; rw [if_neg n]; exact e
theorem ex_drop {H H1 : Hp} {D : Addr} (e : Ex H1 H) (n : H1 D = none) : Ex H1 (dropAt H D) := fun a o h => drop_of (e a o h) fun z => by rw [z, n] at h; cases h
theorem cw_turn2 {H H' Hb : Hp} {t : TT} {te : TE} {f : Nat → Bool} {v : Nat → V} {Dl : Addr} {i : Nat} {σ2 : L2.St} (p : Cw H f v Dl i H') (hi : i < 50000) (hb : Ex Hb H') (ht : EvT t σ2 Hb (f i)) (he : f i = true → Ev te σ2 Hb (v i)) :
    t σ2 H' fun b H3 => if b = true then te σ2 H3 fun y H4 => ∃ acc, H4 Dl = some (.lst acc) ∧ acc.length < sizeLine ∧ Cw H f v Dl (i + 1) (upd H4 Dl (.lst (acc ++ [y]))) else Cw H f v Dl (i + 1) H3 := by
  obtain ⟨p1, p2, p3⟩ := p
  refine ht H' hb _ fun H3 e3 => ?_
  cases hf : f i with
  | true =>
    show te σ2 H3 fun y H4 => ∃ acc, H4 Dl = some (.lst acc) ∧ acc.length < sizeLine ∧ Cw H f v Dl (i + 1) (upd H4 Dl (.lst (acc ++ [y])))
    refine he hf H3 (hb.trans e3) _ fun H4 e4 => ⟨given i f v, e4 Dl _ (e3 Dl _ p3), sz_lt (by have := given_len i f v; omega), p1, Ex.mut ((p2.trans e3).trans e4) p1, ?_⟩
    rw [given_yes hf]
    exact upd_same
  | false =>
    show Cw H f v Dl (i + 1) H3
    refine ⟨p1, p2.trans e3, ?_⟩
    rw [given_no hf]
    exact e3 Dl _ p3
theorem cw_ex {H H1 H2 : Hp} {f : Nat → Bool} {v : Nat → V} {Dl : Addr} {i : Nat} (p : Cw H f v Dl i H1) (e : Ex H1 H2) : Cw H f v Dl i H2 := ⟨p.1, p.2.1.trans e, e Dl _ p.2.2⟩
/-- what a target does with a value: from the slots s to s2 -/
def Tgt (g : TG) (x : V) (σ σ2 : L2.St) (H : Hp) : Prop := ∀ H2, Ex H H2 → ∀ Q : L2.St → Hp → Prop, Q σ2 H2 → g x σ H2 Q
theorem tg_name {i : Nat} {x : V} {σ : L2.St} {H : Hp} : Tgt (gName i) x σ (σ.set i (some x)) H := fun _ _ _ q => q
theorem tg_two {K : PySem.W.Frag} {g1 g2 : TG} {T : Addr} {x y : V} {σ σ1 σ2 : L2.St} {H : Hp} (h : SqT K H T [x, y]) (h1 : Tgt g1 x σ σ1 H) (h2 : Tgt g2 y σ1 σ2 H) : Tgt (gTup K 2 (gCons g1 (gCons g2 gNil))) (.ref T) σ σ2 H := fun H2 e Q q =>
  ⟨T, [x, y], rfl, ex_t e h, rfl, x, [y], rfl, h1 H2 e _ ⟨y, [], rfl, h2 H2 e _ ⟨rfl, q⟩⟩⟩
theorem tg_three {K : PySem.W.Frag} {g1 g2 g3 : TG} {T : Addr} {x y z : V} {σ σ1 σ2 σ3 : L2.St} {H : Hp} (h : SqT K H T [x, y, z]) (h1 : Tgt g1 x σ σ1 H) (h2 : Tgt g2 y σ1 σ2 H) (h3 : Tgt g3 z σ2 σ3 H) : Tgt (gTup K 3 (gCons g1 (gCons g2 (gCons g3 gNil)))) (.ref T) σ σ3 H := fun H2 e Q q =>
  ⟨T, [x, y, z], rfl, ex_t e h, rfl, x, [y, z], rfl, h1 H2 e _ ⟨y, [z], rfl, h2 H2 e _ ⟨z, [], rfl, h3 H2 e _ ⟨rfl, q⟩⟩⟩⟩
section
variable {K : PySem.W.Frag} {σ : L2.St} {H : Hp} {t : TT} {te : TE} {g : TG} {vs : List Nat} {a b : Addr} {xs ys : List V} {ta : TA}
theorem et_yes {σ : L2.St} {H : Hp} : EvT tYes σ H true := fun H1 _ _ q => q H1 (Ex.refl H1)
theorem el_lcLg {tl : TE} (f : Nat → Bool) (v : Nat → V) (h : Ev tl σ H (.ref a)) (hx : SqL K H a xs) (hz : xs.length ≤ 40000)
    (hs : ∀ (i : Nat) (x : V) Hb, Ex H Hb → xs[i]? = some x → ∃ σ2, Tgt g x (wipe σ vs) σ2 Hb ∧ wipe σ2 vs = wipe σ vs ∧ EvT t σ2 Hb (f i) ∧ (f i = true → Ev te σ2 Hb (v i))) :
    EvL (tLc (iList K tl) g t te vs) σ H (given xs.length f v) := fun H0 e Q q => h H0 e _ fun H1 e1 => ⟨a, rfl, ⟨xs, ex_l (e.trans e1) hx⟩, fun Dl hD =>
  lc_list (xs := xs) (Cw H1 f v Dl) ⟨hD, Ex.new hD, upd_same⟩ (fun i H' _ p => ex_l ((e.trans e1).trans p.2.1) hx) (fun i x H' hi p => by
    obtain ⟨σ2, h1, h2, h3, h4⟩ := hs i x H1 (e.trans e1) hi
    exact h1 H' p.2.1 _ ⟨h2, cw_turn2 p (by have := (List.getElem?_eq_some_iff.mp hi).1; omega) p.2.1 h3 h4⟩)
    (fun H' p => q Dl H' (fresh_back e1 p.1) (e1.trans p.2.1) p.2.2)⟩
theorem el_lcE (f : Nat → Bool) (v : Nat → V) (h : EvA ta σ H [.ref a]) (hx : SqL K H a xs) (hz : xs.length ≤ 40000)
    (hs : ∀ (i : Nat) (x : V) T Hb, Ex H Hb → xs[i]? = some x → Hb T = some (.tup [.int (i : Nat), x]) → ∃ σ2, Tgt g (.ref T) (wipe σ vs) σ2 Hb ∧ wipe σ2 vs = wipe σ vs ∧ EvT t σ2 Hb (f i) ∧ (f i = true → Ev te σ2 Hb (v i))) :
    EvL (tLc (iEnum K ta) g t te vs) σ H (given xs.length f v) := fun H0 e Q q => h H0 e _ fun H1 e1 => ⟨a, xs, rfl, ex_l (e.trans e1) hx, fun Dl hD => by
  refine ⟨fun i m H' => m = xs.length - i ∧ i ≤ xs.length ∧ Cw H1 f v Dl i H', ⟨xs.length, by simp, Nat.zero_le _, hD, Ex.new hD, upd_same⟩, ?_⟩
  rintro i m H' ⟨rfl, hi, p⟩
  have hX := ex_l ((e.trans e1).trans p.2.1) hx
  by_cases hlt : i < xs.length
  · refine .inr ⟨⟨xs, xs[i], hX, List.getElem?_eq_getElem hlt⟩, Cw H1 f v Dl (i + 1), fun H2 p' => ⟨xs.length - (i + 1), by omega, rfl, hlt, p'⟩, fun y H2 hy => ?_⟩
    obtain ⟨T, x, rfl, nT, rfl, hxx⟩ := hy
    have gi := hxx xs hX
    have eT : Ex H' (upd H' T (.tup [.int (i : Nat), x])) := Ex.new nT
    have hTD : T ≠ Dl := fun z => by rw [z, p.2.2] at nT; cases nT
    have p2 := cw_ex p eT
    obtain ⟨σ2, h1, h2, h3, h4⟩ := hs i x T (dropAt (upd H' T (.tup [.int (i : Nat), x])) Dl) (ex_drop (((e.trans e1).trans p.2.1).trans eT) (fresh_back (e.trans e1) p.1)) gi (drop_of upd_same hTD)
    exact h1 _ drop_ex _ ⟨h2, cw_turn2 p2 (by omega) drop_ex h3 h4⟩
  · have ei : i = xs.length := by omega
    subst ei
    exact .inl ⟨⟨xs, hX, Nat.le_refl _⟩, q Dl H' (fresh_back e1 p.1) (e1.trans p.2.1) p.2.2⟩⟩
theorem el_lcZ (f : Nat → Bool) (v : Nat → V) (h : EvA ta σ H [.ref a, .ref b]) (hx : SqL K H a xs) (hy : SqL K H b ys) (hl : xs.length = ys.length) (hz : xs.length ≤ 40000)
    (hs : ∀ (i : Nat) (x y : V) T Hb, Ex H Hb → xs[i]? = some x → ys[i]? = some y → Hb T = some (.tup [x, y]) → ∃ σ2, Tgt g (.ref T) (wipe σ vs) σ2 Hb ∧ wipe σ2 vs = wipe σ vs ∧ EvT t σ2 Hb (f i) ∧ (f i = true → Ev te σ2 Hb (v i))) :
    EvL (tLc (RZ.iZipA K ta) g t te vs) σ H (given xs.length f v) := fun H0 e Q q => h H0 e _ fun H1 e1 => ⟨a, b, xs, ys, rfl, .inl ⟨ex_l (e.trans e1) hx, ex_l (e.trans e1) hy, fun Dl hD => by
  refine ⟨fun i m H' => m = xs.length - i ∧ i ≤ xs.length ∧ Cw H1 f v Dl i H', ⟨xs.length, by simp, Nat.zero_le _, hD, Ex.new hD, upd_same⟩, ?_⟩
  rintro i m H' ⟨rfl, hi, p⟩
  have hX := ex_l ((e.trans e1).trans p.2.1) hx
  have hY := ex_l ((e.trans e1).trans p.2.1) hy
  by_cases hlt : i < xs.length
  · have hlt2 : i < ys.length := by omega
    refine .inr ⟨⟨xs, ys, xs[i], ys[i], hX, hY, List.getElem?_eq_getElem hlt, List.getElem?_eq_getElem hlt2⟩, Cw H1 f v Dl (i + 1), fun H2 p' => ⟨xs.length - (i + 1), by omega, rfl, hlt, p'⟩, fun z H2 hzz => ?_⟩
    obtain ⟨T, x, y, rfl, nT, rfl, hxx, hyy⟩ := hzz
    have eT : Ex H' (upd H' T (.tup [x, y])) := Ex.new nT
    have hTD : T ≠ Dl := fun z => by rw [z, p.2.2] at nT; cases nT
    have p2 := cw_ex p eT
    obtain ⟨σ2, h1, h2, h3, h4⟩ := hs i x y T (dropAt (upd H' T (.tup [x, y])) Dl) (ex_drop (((e.trans e1).trans p.2.1).trans eT) (fresh_back (e.trans e1) p.1)) (hxx xs hX) (hyy ys hY) (drop_of upd_same hTD)
    exact h1 _ drop_ex _ ⟨h2, cw_turn2 p2 (by omega) drop_ex h3 h4⟩
  · have ei : i = xs.length := by omega
    subst ei
    exact .inl ⟨⟨xs, ys, hX, hY, .inl (Nat.le_refl _)⟩, q Dl H' (fresh_back e1 p.1) (e1.trans p.2.1) p.2.2⟩⟩⟩
theorem el_lcZT (f : Nat → Bool) (v : Nat → V) (h : EvA ta σ H [.ref a, .ref b]) (hx : SqT K H a xs) (hy : SqT K H b ys) (hl : xs.length = ys.length) (hz : xs.length ≤ 40000)
    (hs : ∀ (i : Nat) (x y : V) T Hb, Ex H Hb → xs[i]? = some x → ys[i]? = some y → Hb T = some (.tup [x, y]) → ∃ σ2, Tgt g (.ref T) (wipe σ vs) σ2 Hb ∧ wipe σ2 vs = wipe σ vs ∧ EvT t σ2 Hb (f i) ∧ (f i = true → Ev te σ2 Hb (v i))) :
    EvL (tLc (RZ.iZipA K ta) g t te vs) σ H (given xs.length f v) := fun H0 e Q q => h H0 e _ fun H1 e1 => ⟨a, b, xs, ys, rfl, .inr ⟨ex_t (e.trans e1) hx, ex_t (e.trans e1) hy, fun Dl hD => by
  refine ⟨fun i m H' => m = xs.length - i ∧ i ≤ xs.length ∧ Cw H1 f v Dl i H', ⟨xs.length, by simp, Nat.zero_le _, hD, Ex.new hD, upd_same⟩, ?_⟩
  rintro i m H' ⟨rfl, hi, p⟩
  have hX := ex_t ((e.trans e1).trans p.2.1) hx
  have hY := ex_t ((e.trans e1).trans p.2.1) hy
  by_cases hlt : i < xs.length
  · have hlt2 : i < ys.length := by omega
    refine .inr ⟨⟨xs, ys, xs[i], ys[i], hX, hY, List.getElem?_eq_getElem hlt, List.getElem?_eq_getElem hlt2⟩, Cw H1 f v Dl (i + 1), fun H2 p' => ⟨xs.length - (i + 1), by omega, rfl, hlt, p'⟩, fun z H2 hzz => ?_⟩
    obtain ⟨T, x, y, rfl, nT, rfl, hxx, hyy⟩ := hzz
    have eT : Ex H' (upd H' T (.tup [x, y])) := Ex.new nT
    have hTD : T ≠ Dl := fun z => by rw [z, p.2.2] at nT; cases nT
    have p2 := cw_ex p eT
    obtain ⟨σ2, h1, h2, h3, h4⟩ := hs i x y T (dropAt (upd H' T (.tup [x, y])) Dl) (ex_drop (((e.trans e1).trans p.2.1).trans eT) (fresh_back (e.trans e1) p.1)) (hxx xs hX) (hyy ys hY) (drop_of upd_same hTD)
    exact h1 _ drop_ex _ ⟨h2, cw_turn2 p2 (by omega) drop_ex h3 h4⟩
  · have ei : i = xs.length := by omega
    subst ei
    exact .inl ⟨⟨xs, ys, hX, hY, .inl (Nat.le_refl _)⟩, q Dl H' (fresh_back e1 p.1) (e1.trans p.2.1) p.2.2⟩⟩⟩
end

end Su
namespace Su
/-! ### data as a whole: _law_same of two alike -/
mutual
theorem dp_ex {K : PySem.W.Frag} {H H' : Hp} (e : Ex H H') : ∀ {x : V} {d : PyData}, Dp K H x d → Dp K H' x d
  | _, _, .non => .non
  | _, _, .bl b => .bl b
  | _, _, .int i => .int i
  | _, _, .str x => .str x
  | _, _, .lst h1 h2 => .lst (ex_l e h1) (dpa_ex e h2)
  | _, _, .tup h1 h2 => .tup (ex_t e h1) (dpa_ex e h2)
theorem dpa_ex {K : PySem.W.Frag} {H H' : Hp} (e : Ex H H') : ∀ {xs : List V} {ds : List PyData}, DpAll K H xs ds → DpAll K H' xs ds
  | _, _, .nil => .nil
  | _, _, .cons h1 h2 => .cons (dp_ex e h1) (dpa_ex e h2)
end
theorem dpa_len {K : PySem.W.Frag} {H : Hp} : ∀ {xs : List V} {ds : List PyData}, DpAll K H xs ds → xs.length = ds.length
  | _, _, .nil => rfl
  | _, _, .cons _ h2 => by rw [List.length_cons, List.length_cons, dpa_len h2]
theorem dpa_get {K : PySem.W.Frag} {H : Hp} : ∀ {xs : List V} {ds : List PyData} {i : Nat} {x : V}, DpAll K H xs ds → xs[i]? = some x → ∃ d, ds[i]? = some d ∧ Dp K H x d
  | _, _, _, _, .nil, e => by simp at e
  | _, _, 0, _, .cons h _, e => by simp at e; subst e; exact ⟨_, rfl, h⟩
  | _, _, i + 1, x, .cons _ h2, e => by
    obtain ⟨d, h1, h3⟩ := dpa_get (i := i) (x := x) h2 (by simpa using e)
    exact ⟨d, by simpa using h1, h3⟩
theorem dpa_of {K : PySem.W.Frag} {H : Hp} {α : Type} (f : α → V) (g : α → PyData) : ∀ l : List α, (∀ a ∈ l, Dp K H (f a) (g a)) → DpAll K H (l.map f) (l.map g)
  | [], _ => .nil
  | a :: r, h => .cons (h a List.mem_cons_self) (dpa_of f g r fun b hb => h b (List.mem_cons_of_mem _ hb))
def tyN : PyData → String
  | .none => "NoneType" | .bool _ => "bool" | .int _ => "int" | .str _ => "str" | .list _ => "list" | .tuple _ => "tuple" | .dict _ => "dict"
theorem ty_dp {K : PySem.W.Frag} {H : Hp} {x : V} {d : PyData} (h : Dp K H x d) : TyX K H x (.type (tyN d)) := by
  cases h with
  | non => exact .base .non
  | bl b => exact .base (.bl b)
  | int i => exact .base (.int i)
  | str s => exact .base (.str s)
  | lst h1 _ =>
    rcases h1 with (h1 | ⟨o, h1⟩) | ⟨o, its, n, h1, h2, _⟩
    · exact .base (.lst h1)
    · exact .base (.frz h1)
    · exact .kList h1 h2
  | tup h1 _ =>
    rcases h1 with (h1 | ⟨o, h1⟩) | ⟨o, its, n, h1, h2, _⟩
    · exact .base (.tup h1)
    · exact .fTuple h1
    · exact .kTuple h1 h2
theorem rc_isi_dp {K : PySem.W.Frag} {H : Hp} {x : V} {d : PyData} {n : String} {b : Bool} (h : Dp K H x d) (hk : kitB (tyN d) n = some b) : RC (rIsi K) [x, .ty n] H (.bl b) :=
  fun H1 e _ q => ⟨x, .ty n, .type (tyN d), .type n, b, rfl, .ty n, ty_dp (dp_ex e h), kit_ty hk, q H1 (Ex.refl H1)⟩
theorem kit_tab {t m : String} (ht : t = "NoneType" ∨ t = "bool" ∨ t = "int" ∨ t = "str" ∨ t = "list" ∨ t = "tuple") (hm : m = "bool" ∨ m = "int" ∨ m = "list" ∨ m = "tuple" ∨ m = "str") : ∃ b, kitB t m = some b := by
  rcases ht with rfl | rfl | rfl | rfl | rfl | rfl <;> rcases hm with rfl | rfl | rfl | rfl | rfl <;> first | exact ⟨true, by decide +kernel⟩ | exact ⟨false, by decide +kernel⟩
/-- data of ints, texts, None, bools, lists and tuples, n deep -/
inductive PlD : Nat → PyData → Prop
  | non {n : Nat} : PlD n .none
  | bool {n : Nat} (b : Bool) : PlD n (.bool b)
  | int {n : Nat} (i : Int) : PlD n (.int i)
  | str {n : Nat} (x : Str) : PlD n (.str x)
  | list {n : Nat} {xs : List PyData} : xs.length ≤ 1000 → (∀ x ∈ xs, PlD n x) → PlD (n + 1) (.list xs)
  | tuple {n : Nat} {xs : List PyData} : xs.length ≤ 1000 → (∀ x ∈ xs, PlD n x) → PlD (n + 1) (.tuple xs)
theorem PlD.ty {n : Nat} {d : PyData} (h : PlD n d) : tyN d = "NoneType" ∨ tyN d = "bool" ∨ tyN d = "int" ∨ tyN d = "str" ∨ tyN d = "list" ∨ tyN d = "tuple" := by
  cases h <;> simp [tyN]
theorem given_all {n : Nat} {v : V} : given n (fun _ => true) (fun _ => v) = List.replicate n v := by
  induction n with
  | zero => rfl
  | succ n ih => rw [given_yes rfl, ih, List.replicate_succ']
theorem all_rep (n : Nat) : (List.replicate n true).all id = true := by
  induction n with
  | zero => rfl
  | succ n ih => rw [List.replicate_succ, List.all_cons, ih]; rfl
section
variable {P : Program} {w : World} {K : PySem.W.Frag} {mg : Str → Option Value} {base : Heap}
theorem ev_isi {σ : L2.St} {H : Hp} {ta tb : TE} {x : V} {d : PyData} {n : String} {b : Bool} (ha : Ev ta σ H x) (hb : Ev tb σ H (.ty n)) (h : Dp K H x d) (hk : kitB (tyN d) n = some b) : Ev (tCB (rIsi K) (tCons ta (tCons tb tNil))) σ H (.bl b) := ev_cb (ea_cons ha (ea_cons hb ea_nil)) (rc_isi_dp h hk)
theorem ev_allT {σ : L2.St} {H : Hp} {te : TE} {n : Nat} (h : EvL te σ H (List.replicate n (V.bl true))) : Ev (tCB (rAll K) (tCons te tNil)) σ H (.bl true) := fun H1 e Q q =>
  h H1 e _ fun p H2 _ e2 h2 => ⟨p, List.replicate n true, rfl, sq_of (by rw [List.map_replicate]; exact h2), by rw [all_rep]; exact q H2 e2⟩
theorem rv_sc {H : Hp} {x : V} (h : scal x x = true) : RV rEq x x H (.bl true) := fun H1 e Q q => ⟨h, by rw [decide_eq_true rfl]; exact q H1 (Ex.refl H1)⟩
theorem rv_neb {H : Hp} {b : Bool} : RV rNe (.bl b) (.bl b) H (.bl false) := fun H1 e Q q => ⟨by cases b <;> rfl, by rw [decide_eq_true rfl]; exact q H1 (Ex.refl H1)⟩
end

end Su
namespace Su
section
variable {P : Program} {w : World} {K : PySem.W.Frag} {mg : Str → Option Value} {base : Heap}
def spSame (K : PySem.W.Frag) (n : Nat) : Sp := fun vs H Q _ => ∃ (x y : V) (d : PyData), vs = [x, y] ∧ PlD n d ∧ Dp K H x d ∧ Dp K H y d ∧ ∀ H', Ex H H' → Q (.bl true) H'
def spPrev (K : PySem.W.Frag) : Nat → Sp
  | 0 => fun _ _ _ _ => False
  | n + 1 => spSame K n
theorem spV_same {n : Nat} {x y : V} {d : PyData} {H : Hp} (hp : PlD n d) (h1 : Dp K H x d) (h2 : Dp K H y d) : SpV (spSame K n) [x, y] H (.bl true) := fun H1 e Q q _ => ⟨x, y, d, rfl, hp, dp_ex e h1, dp_ex e h2, q⟩
end
section
variable {P : Program} {w : World} {K : PySem.W.Frag} {mg : Str → Option Value} {base : Heap}
theorem ok__law_same (T : Top K mg) : ∀ n : Nat, FnOk P w K mg base CX0 (n + 1) T.f__law_same T.fd__law_same ["_law_told", "_law_due"] (spSame K n) := fun n => by
  have G__law_same : FnOk P w K mg base CX0 n T.f__law_same T.fd__law_same ["_law_told", "_law_due"] (spPrev K n) := by
    cases n with
    | zero => exact ⟨fun _ _ _ _ h => h.elim, fun _ _ _ _ _ _ _ _ _ _ _ _ _ h => h.elim⟩
    | succ n => exact ok__law_same T n
  have nd := sc__law_same.nd
  refine T.F__law_same.ok sc__law_same (fun vs H Q E h => ?_) (fun cdv A outer s H vs Q E hr h => ?_)
  · obtain ⟨x, y, d, rfl, _⟩ := h
    rfl
  · obtain ⟨x, y, d, rfl, hp, hx, hy, q⟩ := h
    refine ⟨_, (pss_cons (ps_if (PW.pt (pw_or (pt_cmpR op_ne (pe_callB call_isi (by rfl) T.m_isinstance (by decide +kernel) (pa_cons (pv 0) (pa_cons (pe_bltn (v := .ty "bool") (by rfl) T.m_bool (by decide +kernel) rfl) pa_nil))) (pe_callB call_isi (by rfl) T.m_isinstance (by decide +kernel) (pa_cons (pv 1) (pa_cons (pe_bltn (v := .ty "bool") (by rfl) T.m_bool (by decide +kernel) rfl) pa_nil))) (nomark _)) (pw_or1 (pt_cmpR op_ne (pe_callB call_isi (by rfl) T.m_isinstance (by decide +kernel) (pa_cons (pv 0) (pa_cons (pe_bltn (v := .ty "int") (by rfl) T.m_int (by decide +kernel) rfl) pa_nil))) (pe_callB call_isi (by rfl) T.m_isinstance (by decide +kernel) (pa_cons (pv 1) (pa_cons (pe_bltn (v := .ty "int") (by rfl) T.m_int (by decide +kernel) rfl) pa_nil))) (nomark _)))))
        (pss_one (ps_ret pe_bl))
        pss_nil)
      (pss_cons (ps_if (PW.pt (pw_or (pt_cmpR op_ne (pe_callB call_isi (by rfl) T.m_isinstance (by decide +kernel) (pa_cons (pv 0) (pa_cons (pe_bltn (v := .ty "list") (by rfl) T.m_list (by decide +kernel) rfl) pa_nil))) (pe_callB call_isi (by rfl) T.m_isinstance (by decide +kernel) (pa_cons (pv 1) (pa_cons (pe_bltn (v := .ty "list") (by rfl) T.m_list (by decide +kernel) rfl) pa_nil))) (nomark _)) (pw_or1 (pt_cmpR op_ne (pe_callB call_isi (by rfl) T.m_isinstance (by decide +kernel) (pa_cons (pv 0) (pa_cons (pe_bltn (v := .ty "tuple") (by rfl) T.m_tuple (by decide +kernel) rfl) pa_nil))) (pe_callB call_isi (by rfl) T.m_isinstance (by decide +kernel) (pa_cons (pv 1) (pa_cons (pe_bltn (v := .ty "tuple") (by rfl) T.m_tuple (by decide +kernel) rfl) pa_nil))) (nomark _)))))
        (pss_one (ps_ret pe_bl))
        pss_nil)
      (pss_cons (ps_if (PW.pt (pw_and (pt_not (pt_val (pe_callB call_isi (by rfl) T.m_isinstance (by decide +kernel) (pa_cons (pv 1) (pa_cons (pe_bltn (v := .ty "list") (by rfl) T.m_list (by decide +kernel) rfl) pa_nil))))) (pw_and1 (pt_not (pt_val (pe_callB call_isi (by rfl) T.m_isinstance (by decide +kernel) (pa_cons (pv 1) (pa_cons (pe_bltn (v := .ty "tuple") (by rfl) T.m_tuple (by decide +kernel) rfl) pa_nil))))))))
        (pss_one (ps_ret (pe_and (pe_cmpR op_eq (pe_callB call_isi (by rfl) T.m_isinstance (by decide +kernel) (pa_cons (pv 0) (pa_cons (pe_bltn (v := .ty "str") (by rfl) T.m_str (by decide +kernel) rfl) pa_nil))) (pe_callB call_isi (by rfl) T.m_isinstance (by decide +kernel) (pa_cons (pv 1) (pa_cons (pe_bltn (v := .ty "str") (by rfl) T.m_str (by decide +kernel) rfl) pa_nil))) (nomark _)) (pe_one (pe_cmpR op_eq (pv 0) (pv 1) (nomark _))))))
        pss_nil)
      (pss_one (ps_ret (pe_and (pe_cmpR op_eq (pe_callB call_len_seq (by rfl) T.m_len PySem.boot_len (pa_cons (pv 0) pa_nil)) (pe_callB call_len_seq (by rfl) T.m_len PySem.boot_len (pa_cons (pv 1) pa_nil)) (nomark _)) (pe_one (pe_callB (cr_all rfl) (by rfl) T.m_all (by decide +kernel) (pa_cons (pe_lc (own := [("_law_one", 2), ("_law_other", 3)]) (g := gTup K 2 (gCons (gName 2) (gCons (gName 3) gNil))) (tt := tYes) rfl nd (RZ.pi_zipA (by rfl) T.m_zip (pa_cons (pv 0) (pa_cons (pv 1) pa_nil))) (blkOk_by (own := [("_law_one", 2), ("_law_other", 3)]) (N := Su.N__law_same) (sc := defScope s__law_same) (by decide +kernel)) (fun _ _ _ _ _ => (pg_tup rfl (pgs_cons (pg_name (i := 2) nd rfl (.inl rfl)) (pgs_cons (pg_name (i := 3) nd rfl (.inl rfl)) pgs_nil)))) (fun _ _ _ _ _ => pts_nil) (fun _ _ _ _ _ => (pe_call G__law_same hr (by rfl) T.m__law_same T.F__law_same.kp T.b__law_same .nil pass0 (pa_cons (pv 2) (pa_cons (pv 3) pa_nil))))) pa_nil))))))))), ?_⟩
    have kb := fun (m : String) hm => kit_tab (m := m) hp.ty hm
    obtain ⟨b1, k1⟩ := kb "bool" (by simp)
    obtain ⟨b2, k2⟩ := kb "int" (by simp)
    obtain ⟨b3, k3⟩ := kb "list" (by simp)
    obtain ⟨b4, k4⟩ := kb "tuple" (by simp)
    obtain ⟨b5, k5⟩ := kb "str" (by simp)
    refine q_when (b := false) ?_ (fun h => by cases h) fun _ H1 e1 => ?_
    · exact et_or (a := false) (b := false) (et_test (ev_op (ev_isi (ev_var rfl) ev_c hx k1) (ev_isi (ev_var rfl) ev_c hy k1) rv_neb)) fun _ => et_test (ev_op (ev_isi (ev_var rfl) ev_c hx k2) (ev_isi (ev_var rfl) ev_c hy k2) rv_neb)
    have hx := dp_ex e1 hx
    have hy := dp_ex e1 hy
    refine q_when (b := false) ?_ (fun h => by cases h) fun _ H2 e2 => ?_
    · exact et_or (a := false) (b := false) (et_test (ev_op (ev_isi (ev_var rfl) ev_c hx k3) (ev_isi (ev_var rfl) ev_c hy k3) rv_neb)) fun _ => et_test (ev_op (ev_isi (ev_var rfl) ev_c hx k4) (ev_isi (ev_var rfl) ev_c hy k4) rv_neb)
    have hx := dp_ex e2 hx
    have hy := dp_ex e2 hy
    refine q_when (et_and (et_not (et_B (ev_isi (ev_var rfl) ev_c hy k3))) fun _ => et_not (et_B (ev_isi (ev_var rfl) ev_c hy k4))) (fun hb H3 e3 => ?_) (fun hb H3 e3 => ?_)
    · -- no list, no tuple
      have hx := dp_ex e3 hx
      have hy := dp_ex e3 hy
      have hsc : scal x x = true ∧ x = y := by
        cases hp with
        | non => cases hx; cases hy; exact ⟨rfl, rfl⟩
        | bool b => cases hx; cases hy; exact ⟨rfl, rfl⟩
        | int i => cases hx; cases hy; exact ⟨rfl, rfl⟩
        | str s => cases hx; cases hy; exact ⟨rfl, rfl⟩
        | list _ _ =>
          have z : b3 = true := Option.some.inj (k3.symm.trans (show kitB "list" "list" = some true by decide +kernel))
          rw [z] at hb
          exact absurd hb (by cases b4 <;> decide)
        | tuple _ _ =>
          have z : b4 = true := Option.some.inj (k4.symm.trans (show kitB "tuple" "tuple" = some true by decide +kernel))
          rw [z, Bool.not_true, Bool.and_false] at hb
          exact absurd hb (by decide)
      obtain ⟨hsc, rfl⟩ := hsc
      refine s_ret (v := .bl (true && true)) (ev_andV (ev_op (ev_isi (ev_var rfl) ev_c hx k5) (ev_isi (ev_var rfl) ev_c hy k5) (rv_sc (by cases b5 <;> rfl))) fun _ => ev_op (ev_var rfl) (ev_var rfl) (rv_sc hsc)) fun H4 e4 => q H4 (((e1.trans e2).trans e3).trans e4)
    · have hx := dp_ex e3 hx
      have hy := dp_ex e3 hy
      have ex3 := (e1.trans e2).trans e3
      cases hp with
      | non => exact absurd hb (by rw [← Option.some.inj ((show kitB "NoneType" "list" = some false by decide +kernel).symm.trans k3), ← Option.some.inj ((show kitB "NoneType" "tuple" = some false by decide +kernel).symm.trans k4)]; decide)
      | bool b => exact absurd hb (by rw [← Option.some.inj ((show kitB "bool" "list" = some false by decide +kernel).symm.trans k3), ← Option.some.inj ((show kitB "bool" "tuple" = some false by decide +kernel).symm.trans k4)]; decide)
      | int i => exact absurd hb (by rw [← Option.some.inj ((show kitB "int" "list" = some false by decide +kernel).symm.trans k3), ← Option.some.inj ((show kitB "int" "tuple" = some false by decide +kernel).symm.trans k4)]; decide)
      | str z => exact absurd hb (by rw [← Option.some.inj ((show kitB "str" "list" = some false by decide +kernel).symm.trans k3), ← Option.some.inj ((show kitB "str" "tuple" = some false by decide +kernel).symm.trans k4)]; decide)
      | @list n ds hn hds =>
        cases hx with
        | @lst a xs _ hX aX => cases hy with
          | @lst b ys _ hY aY =>
            have lx := dpa_len aX
            have ly := dpa_len aY
            refine s_ret (v := .bl (true && true)) (ev_andV (ev_op (ev_cb (ea_cons (ev_var rfl) ea_nil) (rc_len (.inl hX))) (ev_cb (ea_cons (ev_var rfl) ea_nil) (rc_len (.inl hY))) ?_) fun _ => ev_allT (n := xs.length) ?_) fun H4 e4 => q H4 (ex3.trans e4)
            · rw [lx, ly]
              exact rv_sc rfl
            · rw [← given_all]
              refine el_lcZ _ _ (ea_cons (ev_var rfl) (ea_cons (ev_var rfl) ea_nil)) hX hY (by omega) (by omega) fun i x y Tt Hb eb gx gy hT => ?_
              obtain ⟨d1, g1, p1⟩ := dpa_get aX gx
              obtain ⟨d2, g2, p2⟩ := dpa_get aY gy
              obtain rfl : d1 = d2 := Option.some.inj (g1.symm.trans g2)
              refine ⟨_, tg_two (.inl (.inl hT)) tg_name tg_name, rfl, et_yes, fun _ => ?_⟩
              refine ev_call (ea_cons (ev_var rfl) (ea_cons (ev_var rfl) ea_nil)) ?_
              exact spV_same (hds d1 (List.mem_of_getElem? g1)) (dp_ex eb p1) (dp_ex eb p2)
      | @tuple n ds hn hds =>
        cases hx with
        | @tup a xs _ hX aX => cases hy with
          | @tup b ys _ hY aY =>
            have lx := dpa_len aX
            have ly := dpa_len aY
            refine s_ret (v := .bl (true && true)) (ev_andV (ev_op (ev_cb (ea_cons (ev_var rfl) ea_nil) (rc_len (.inr hX))) (ev_cb (ea_cons (ev_var rfl) ea_nil) (rc_len (.inr hY))) ?_) fun _ => ev_allT (n := xs.length) ?_) fun H4 e4 => q H4 (ex3.trans e4)
            · rw [lx, ly]
              exact rv_sc rfl
            · rw [← given_all]
              refine el_lcZT _ _ (ea_cons (ev_var rfl) (ea_cons (ev_var rfl) ea_nil)) hX hY (by omega) (by omega) fun i x y Tt Hb eb gx gy hT => ?_
              obtain ⟨d1, g1, p1⟩ := dpa_get aX gx
              obtain ⟨d2, g2, p2⟩ := dpa_get aY gy
              obtain rfl : d1 = d2 := Option.some.inj (g1.symm.trans g2)
              refine ⟨_, tg_two (.inl (.inl hT)) tg_name tg_name, rfl, et_yes, fun _ => ?_⟩
              refine ev_call (ea_cons (ev_var rfl) (ea_cons (ev_var rfl) ea_nil)) ?_
              exact spV_same (hds d1 (List.mem_of_getElem? g1)) (dp_ex eb p1) (dp_ex eb p2)
end

end Su
namespace Su
/-! ### for i, x in enumerate(xs) -/
theorem s_forE {K : PySem.W.Frag} {a : Addr} {xs : List V} {g : TG} {tb : TS} {D : Ends} {σ : L2.St} {H : Hp} {ta : TA} (h : EvA ta σ H [.ref a]) (hx : SqL K H a xs) (Pv : Nat → L2.St → Hp → Prop) (h0 : ∀ H1, Ex H H1 → Pv 0 σ H1) (hl : ∀ i σ' H', i ≤ xs.length → Pv i σ' H' → SqL K H' a xs)
    (hs : ∀ i x T σ' Hc, xs[i]? = some x → Pv i σ' Hc → Hc T = none → ∃ σ2, Tgt g (.ref T) σ' σ2 (upd Hc T (.tup [.int (i : Nat), x])) ∧ tb { D with nx := Pv (i + 1), ct := Pv (i + 1), bk := D.nx } σ2 (upd Hc T (.tup [.int (i : Nat), x])))
    (hd : ∀ σ' H', Pv xs.length σ' H' → D.nx σ' H') : tFor (iEnum K ta) g tb D σ H :=
  h H (Ex.refl H) _ fun H1 e1 => ⟨a, xs, rfl, ex_l e1 hx, by
    refine ⟨fun i m σ' H' => m = xs.length - i ∧ i ≤ xs.length ∧ Pv i σ' H', ⟨xs.length, by simp, Nat.zero_le _, h0 H1 e1⟩, ?_⟩
    rintro i m σ' H' ⟨rfl, hi, p⟩
    have hX := hl i σ' H' hi p
    by_cases hlt : i < xs.length
    · refine .inr ⟨⟨xs, xs[i], hX, List.getElem?_eq_getElem hlt⟩, Pv (i + 1), fun σ2 H2 p' => ⟨xs.length - (i + 1), by omega, rfl, hlt, p'⟩, fun y H2 hy => ?_⟩
      obtain ⟨T, x, rfl, nT, rfl, hxx⟩ := hy
      obtain ⟨σ2, h1, h2⟩ := hs i x T σ' H' (hxx xs hX) p nT
      exact h1 _ (Ex.refl _) _ h2
    · have ei : i = xs.length := by omega
      subst ei
      exact .inl ⟨⟨xs, hX, Nat.le_refl _⟩, hd σ' H' p⟩⟩

end Su
namespace Su
/-! ### settling: what a row of nets comes to, step by step -/
def stepT (l : List Int) (i j : Nat) (c : Int) (l' : List Int) : Prop := ∃ x y, l[i]? = some x ∧ l[j]? = some y ∧ x < 0 ∧ 0 < y ∧ (∀ (k : Nat) (z : Int), k < i → l[k]? = some z → 0 ≤ z) ∧ (∀ (k : Nat) (z : Int), k < j → l[k]? = some z → z ≤ 0) ∧ c = (if y < -x then y else -x) ∧ l' = (l.set i (x + c)).set j (y - c)
def doneT (l : List Int) : Prop := (∀ (i : Nat) (z : Int), l[i]? = some z → 0 ≤ z) ∨ (∀ (i : Nat) (z : Int), l[i]? = some z → z ≤ 0)
inductive Tr : List Int → List (Nat × Nat × Int) → Prop
  | done {l} : doneT l → Tr l []
  | step {l i j c l' r} : stepT l i j c l' → Tr l' r → Tr l ((i, j, c) :: r)
theorem step_not_done {l l' : List Int} {i j : Nat} {c : Int} (h : stepT l i j c l') : ¬ doneT l := by
  obtain ⟨x, y, hx, hy, nx, py, _⟩ := h
  rintro (d | d)
  · have := d i x hx
    omega
  · have := d j y hy
    omega
theorem step_det {l l1 l2 : List Int} {i j i' j' : Nat} {c c' : Int} (h : stepT l i j c l1) (h' : stepT l i' j' c' l2) : i = i' ∧ j = j' ∧ c = c' ∧ l1 = l2 := by
  obtain ⟨x, y, hx, hy, nx, py, f1, f2, rfl, rfl⟩ := h
  obtain ⟨x', y', hx', hy', nx', py', f1', f2', rfl, rfl⟩ := h'
  have ei : i = i' := by
    rcases Nat.lt_trichotomy i i' with h | h | h
    · have := f1' i x h hx
      omega
    · exact h
    · have := f1 i' x' h hx'
      omega
  have ej : j = j' := by
    rcases Nat.lt_trichotomy j j' with h | h | h
    · have := f2' j y h hy
      omega
    · exact h
    · have := f2 j' y' h hy'
      omega
  subst ei
  subst ej
  obtain rfl : x = x' := Option.some.inj (hx.symm.trans hx')
  obtain rfl : y = y' := Option.some.inj (hy.symm.trans hy')
  exact ⟨rfl, rfl, rfl, rfl⟩
theorem Tr.det {l : List Int} {r : List (Nat × Nat × Int)} (h : Tr l r) : ∀ {r'}, Tr l r' → r = r' := by
  induction h with
  | done d =>
    intro r' h'
    cases h' with
    | done _ => rfl
    | step s _ => exact absurd d (step_not_done s)
  | step s _ ih =>
    intro r' h'
    cases h' with
    | done d => exact absurd d (step_not_done s)
    | step s' t' =>
      obtain ⟨rfl, rfl, rfl, rfl⟩ := step_det s s'
      rw [ih t']
theorem set_get {l : List Int} {i : Nat} {x : Int} (h : l[i]? = some x) (y : Int) : (l.set i y)[i]? = some y := List.getElem?_set_self (List.getElem?_eq_some_iff.mp h).1
theorem set_get_ne {l : List Int} {i k : Nat} (y : Int) (h : i ≠ k) : (l.set i y)[k]? = l[k]? := List.getElem?_set_ne h
theorem set_sum {l : List Int} {i : Nat} {x : Int} (h : l[i]? = some x) (y : Int) : (l.set i y).sum = l.sum - x + y := sum_set h
/-- a row that comes to nought and has something below has something above -/
theorem pos_of_sum : ∀ {l : List Int}, (∀ (i : Nat) (z : Int), l[i]? = some z → z ≤ 0) → l.sum ≤ 0
  | [], _ => by rw [List.sum_nil]; omega
  | a :: r, h => by
    have h1 := h 0 a rfl
    have h2 := pos_of_sum (l := r) fun i z hz => h (i + 1) z hz
    rw [List.sum_cons]
    omega
theorem some_pos {l : List Int} {i : Nat} {x : Int} (h : l[i]? = some x) (hx : x < 0) (hs : l.sum = 0) : ∃ (j : Nat) (y : Int), l[j]? = some y ∧ 0 < y := by
  by_cases hp : ∃ (j : Nat) (y : Int), l[j]? = some y ∧ 0 < y
  · exact hp
  · have h2 : ∀ (k : Nat) (z : Int), (l.set i 0)[k]? = some z → z ≤ 0 := by
      intro k z hz
      by_cases e : i = k
      · subst e
        rw [set_get h] at hz
        have := Option.some.inj hz
        omega
      · rw [set_get_ne 0 e] at hz
        by_cases hz0 : 0 < z
        · exact absurd ⟨k, z, hz, hz0⟩ hp
        · omega
    have h3 := pos_of_sum h2
    rw [set_sum h] at h3
    omega

end Su
namespace Su
theorem int_at {ns : List Int} {i : Nat} {x : V} (h : (ns.map V.int)[i]? = some x) : ∃ c, x = .int c ∧ ns[i]? = some c := by
  rw [List.getElem?_map] at h
  cases hc : ns[i]? with
  | none => rw [hc] at h; cases h
  | some c => rw [hc] at h; exact ⟨c, (Option.some.inj h).symm, rfl⟩
theorem given_ints' (l : List Int) : given l.length (fun _ => true) (fun i => .int (l.getD i 0)) = l.map V.int := by
  apply List.ext_getElem?
  intro i
  unfold given
  rw [List.filter_eq_self.mpr (fun _ _ => rfl), List.getElem?_map, List.getElem?_map]
  by_cases hi : i < l.length
  · rw [List.getElem?_range hi, List.getElem?_eq_getElem hi]
    show some (V.int (l.getD i 0)) = some (V.int l[i])
    rw [List.getD_eq_getElem?_getD, List.getElem?_eq_getElem hi]
    rfl
  · rw [List.getElem?_eq_none (by rw [List.length_range]; omega), List.getElem?_eq_none (by omega)]
    rfl

end Su
namespace Su
/-! ### more ways of calls -/
theorem s_forE1 {K : PySem.W.Frag} {te : TE} {g : TG} {tb : TS} {D : Ends} {σ : L2.St} {H : Hp} {Pc : Addr → Hp → Prop} (hcall : ∀ Q : VK, (∀ p H1, Pc p H1 → Q (.ref p) H1) → te σ H Q) (k : ∀ p H1, Pc p H1 → tFor (iEnum K (tCons (tC (.ref p)) tNil)) g tb D σ H1) :
    tFor (iEnum K (tCons te tNil)) g tb D σ H := hcall _ fun p H1 h => k p H1 h
theorem s_tryw1 {sp : Sp} {W : WX} {te : TE} {xs : List V} {σ : L2.St} {H : Hp} {i : Nat} {D : Ends} (h : EvL te σ H xs) (hs : ∀ p H1, H p = none → Ex H H1 → H1 p = some (.lst xs) → sp [.ref p] H1 (fun v H2 => D.nx (σ.set i (some v)) H2) (WE W σ)) : tAsg (tCallS sp (WE W) (tCons te tNil)) (gName i) D σ H :=
  h H (Ex.refl H) _ fun p H1 hp e1 h1 => hs p H1 hp e1 h1
theorem rc_isi_lst {K : PySem.W.Frag} {H : Hp} {p : Addr} {xs : List V} {n : String} {b : Bool} (h : H p = some (.lst xs)) (hk : kitB "list" n = some b) : RC (rIsi K) [.ref p, .ty n] H (.bl b) :=
  fun H1 e _ q => ⟨.ref p, .ty n, .type "list", .type n, b, rfl, .ty n, .base (.lst (e _ _ h)), kit_ty hk, q H1 (Ex.refl H1)⟩
theorem int_eq {i j : Int} : decide (V.int i = V.int j) = decide (i = j) := by
  by_cases h : i = j
  · rw [h, decide_eq_true rfl, decide_eq_true rfl]
  · rw [decide_eq_false h, decide_eq_false (fun z => h (V.int.inj z))]
theorem q_callQ {sp : Sp} {dvs vs : List V} {E : XK} {ta : TA} {σ : L2.St} {H : Hp} {i : Nat} {D : Ends} {tz : TS} (h : EvA ta σ H vs) (k : ∀ H1, Ex H H1 → sp (vs ++ dvs) H1 (fun v H2 => tz D (σ.set i (some v)) H2) E) : tSeq (tAsg (tCall sp dvs E ta) (gName i)) tz D σ H :=
  h H (Ex.refl H) _ fun H1 e1 => k H1 e1

end Su
namespace Su
open TL
/-! ### names: texts, each another -/
theorem ev_join {K : PySem.W.Frag} {to te : TE} {σ : L2.St} {H : Hp} {a : Str} {ys : List Str} (h1 : Ev to σ H (.str a)) (h2 : EvL te σ H (ys.map V.str)) (hz : (ys.map (·.length)).sum + ys.length * a.length ≤ 16777216) :
    Ev (tM1 (fun x xs H Q => ∃ a p, ∃ ys : List Str, x = .str a ∧ xs = [.ref p] ∧ (SqL K H p (ys.map V.str) ∨ SqT K H p (ys.map V.str)) ∧ (ys.map (·.length)).sum + ys.length * a.length ≤ 16777216 ∧ Q (.str (Txt.join a ys)) H) to te) σ H (.str (Txt.join a ys)) := fun H1 e Q q =>
  h1 H1 e _ fun H2 e2 => ⟨⟨a, rfl⟩, h2 H2 (e.trans e2) _ fun p H3 _ e3 h3 => ⟨a, p, ys, rfl, rfl, .inl (sq_of h3), hz, q H3 (e2.trans e3)⟩⟩
theorem ev_addS {ta tb : TE} {σ : L2.St} {H : Hp} {x y : Str} (h1 : Ev ta σ H (.str x)) (h2 : Ev tb σ H (.str y)) (hz : x.length + y.length ≤ 100000) :
    Ev (tOp (fun x y H Q => ∃ i j, x = .str i ∧ y = .str j ∧ i.length + j.length ≤ sizeLine ∧ Q (.str (i ++ j)) H) ta tb) σ H (.str (x ++ y)) := ev_op h1 h2 fun H1 e Q q => ⟨x, y, rfl, rfl, sz_of hz, q H1 (Ex.refl H1)⟩
theorem ev_slS {te : TE} {tl' th : TO} {σ : L2.St} {H : Hp} {z : Str} {lo hi : Option Int} (h : Ev te σ H (.str z)) (h1 : EvO tl' σ H lo) (h2 : EvO th σ H hi) (hz : z.length ≤ 100000) : Ev (tSl rSlS te tl' th) σ H (.str (cutS z lo hi)) := fun H1 e Q q =>
  h H1 e _ fun H2 e2 => h1 H2 (e.trans e2) _ fun H3 e3 => h2 H3 ((e.trans e2).trans e3) _ fun H4 e4 => ⟨z, rfl, sz_of hz, q H4 ((e2.trans e3).trans e4)⟩
theorem tl_cutTo {z : Str} {p : Nat} : tl (cutS z none (some (p : Int))) = (tl z).take p := by
  unfold cutS
  rw [tl_mk, HT.sIx_none, HT.sIx_nat, List.drop_zero, Nat.sub_zero]
  by_cases h : p ≤ z.length
  · rw [Nat.min_eq_left h]
  · rw [Nat.min_eq_right (by omega), List.take_of_length_le (by rw [len_tl]; exact Nat.le_refl _), List.take_of_length_le (by rw [len_tl] at h; omega)]
theorem tl_cutFrom {z : Str} {p : Nat} : tl (cutS z (some (p : Int)) none) = (tl z).drop p := by
  unfold cutS
  rw [tl_mk, HT.sIx_none, HT.sIx_nat]
  by_cases h : p ≤ z.length
  · rw [Nat.min_eq_left h, List.take_of_length_le (by rw [List.length_drop, ← len_tl]; exact Nat.le_refl _)]
  · rw [Nat.min_eq_right (by omega), Nat.sub_self, List.take_zero, List.drop_of_length_le (by rw [len_tl] at h; omega)]
theorem join_ones {α : Type} (f : α → Nat) : ∀ l : List α, joinL [] (l.map fun x => [f x]) = l.map f
  | [] => rfl
  | [a] => rfl
  | a :: b :: r => by
    show [f a] ++ ([] ++ joinL [] ((b :: r).map fun x => [f x])) = _
    rw [join_ones f (b :: r)]
    rfl
theorem inV_str {z : Str} {ws : List Str} : inV (.str z) (ws.map V.str) = decide (z ∈ ws) := by
  unfold inV
  induction ws with
  | nil => rfl
  | cons a r ih =>
    rw [List.map_cons, List.any_cons, ih]
    show ((a == z) || decide (z ∈ r)) = _
    by_cases h : z = a
    · subst h
      simp
    · rw [beq_eq_false_iff_ne.mpr (fun e => h e.symm)]
      simp [h]
theorem flat_strs {ws : List Str} : (ws.map V.str).all flatV = true := by
  rw [List.all_eq_true]
  intro x hx
  obtain ⟨z, _, rfl⟩ := List.mem_map.mp hx
  rfl
/-- unlike ones within a list are no more than its items -/
theorem nodup_le {α : Type} [DecidableEq α] : ∀ {l m : List α}, l.Nodup → (∀ x ∈ l, x ∈ m) → l.length ≤ m.length
  | [], _, _, _ => Nat.zero_le _
  | a :: r, m, h, hs => by
    have h1 := List.nodup_cons.mp h
    have ha := hs a List.mem_cons_self
    have ih := nodup_le (l := r) (m := m.erase a) h1.2 fun x hx => (List.mem_erase_of_ne (fun e : x = a => h1.1 (by rw [← e]; exact hx))).mpr (hs x (List.mem_cons_of_mem _ hx))
    have hp : 0 < m.length := List.length_pos_of_mem ha
    rw [List.length_erase_of_mem ha] at ih
    rw [List.length_cons]
    omega
def lettersS : Str := Str.ofString "abcdefghijklmnopqrstuvwxyz"
theorem letters_at {i : Int} (h0 : 0 ≤ i) (h : i < 26) : atI lettersS.cps.toList i = some (97 + i.toNat) := by
  obtain ⟨n, rfl⟩ : ∃ n : Nat, i = (n : Int) := ⟨i.toNat, by omega⟩
  have hn : n < 26 := by omega
  have e : lettersS.cps.toList = (List.range 26).map fun k => 97 + k := by decide +kernel
  rw [e]
  refine atI_nat ?_
  rw [List.getElem?_map, List.getElem?_range hn]
  rfl
theorem ev_letter {ta tb : TE} {σ : L2.St} {H : Hp} {i : Int} (ha : Ev ta σ H (.str lettersS)) (hb : Ev tb σ H (.int i)) (h0 : 0 ≤ i) (h : i < 26) : Ev (tOp rIxS ta tb) σ H (.str ⟨#[97 + i.toNat]⟩) := ev_op ha hb (rv_ixS (by decide +kernel) (letters_at h0 h))
/-- the word with another letter at a place -/
def varW (w : List Nat) (p : Nat) (raw : Int) (j : Nat) : List Nat := w.set p (97 + ((raw + (j : Int)) % 26).toNat)
theorem var_ne {w : List Nat} {p : Nat} {raw : Int} (hp : p < w.length) {i j : Nat} (hi : i < 26) (hj : j < 26) (h : varW w p raw i = varW w p raw j) : i = j := by
  have e := congrArg (fun l : List Nat => l[p]?) h
  simp only [varW] at e
  rw [List.getElem?_set_self hp, List.getElem?_set_self hp] at e
  have e2 := Option.some.inj e
  have a1 := Int.emod_nonneg (raw + (i : Int)) (show (26 : Int) ≠ 0 by decide)
  have a2 := Int.emod_nonneg (raw + (j : Int)) (show (26 : Int) ≠ 0 by decide)
  omega
theorem var_all {w : List Nat} {p : Nat} {raw : Int} {ws : List Str} (hp : p < w.length) (hw : ws.length ≤ 22) (h : ∀ j, j < 25 → (⟨(varW w p raw j).toArray⟩ : Str) ∈ ws) : False := by
  have nd : ((List.range 25).map fun j => (⟨(varW w p raw j).toArray⟩ : Str)).Nodup := by
    refine List.nodup_iff_pairwise_ne.mpr ?_
    rw [List.pairwise_map]
    refine List.Pairwise.imp_of_mem ?_ (List.nodup_iff_pairwise_ne.mp List.nodup_range)
    intro i j hi hj hne e
    have e2 := congrArg tl e
    rw [tl_mk, tl_mk] at e2
    exact hne (var_ne hp (by have := List.mem_range.mp hi; omega) (by have := List.mem_range.mp hj; omega) e2)
  have := nodup_le nd (m := ws) fun x hx => by
    obtain ⟨j, hj, rfl⟩ := List.mem_map.mp hx
    exact h j (List.mem_range.mp hj)
  rw [List.length_map, List.length_range] at this
  omega
def NameOk (z : Str) : Prop := 1 ≤ (tl z).length ∧ (tl z).length ≤ 12 ∧ ∀ c ∈ tl z, 97 ≤ c ∧ c < 123
theorem NameOk.ok {z : Str} (h : NameOk z) : PyData.strOk z = true := by
  unfold PyData.strOk
  rw [Array.all_eq_true']
  intro c hc
  exact decide_eq_true (Nat.lt_trans (h.2.2 c (Array.mem_toList_iff.mpr hc)).2 (by decide))
section
variable {P : Program} {w : World} {K : PySem.W.Frag} {mg : Str → Option Value} {base : Heap}
def spNames (K : PySem.W.Frag) : Sp := fun vs H Q _ => ∃ (a : Addr) (rows : List Int) (n : Nat), vs = [.ref a, .int (n : Int)] ∧ SqL K H a (rows.map V.int) ∧ n ≤ rows.length ∧ n ≤ 22 ∧ (∀ x ∈ rows, -(10 ^ 18) < x ∧ x < 10 ^ 18) ∧
  ∀ (ws : List Str) H' p, H p = none → Ex H H' → H' p = some (.lst (ws.map V.str)) → ws.length = n → ws.Nodup → (∀ z ∈ ws, NameOk z) → Q (.ref p) H'
def WordI (w0 : List Nat) (pl : Nat) (raw : Int) (ws : List Str) (i : Nat) (z : Str) : Prop := (tl z).length = w0.length ∧ (∀ c ∈ tl z, 97 ≤ c ∧ c < 123) ∧ (z ∉ ws ∨ ((∀ j, j + 1 < i → (⟨(varW w0 pl raw j).toArray⟩ : Str) ∈ ws) ∧ (∀ j, i = j + 1 → tl z = varW w0 pl raw j) ∧ (i = 0 → tl z = w0)))
theorem word_step {w0 : List Nat} {pl : Nat} {raw : Int} {ws : List Str} {i : Nat} {z z' : Str} (h : WordI w0 pl raw ws i z) (hz : z ∈ ws) (hz' : tl z' = varW (tl z) pl raw i) : WordI w0 pl raw ws (i + 1) z' := by
  obtain ⟨hl, hc, h⟩ := h
  refine ⟨by rw [hz']; unfold varW; rw [List.length_set, hl], fun c hc' => ?_, .inr ?_⟩
  · rw [hz'] at hc'
    unfold varW at hc'
    rcases List.mem_or_eq_of_mem_set hc' with h' | h'
    · exact hc c h'
    · have := Int.emod_lt_of_pos (raw + (i : Int)) (show (0 : Int) < 26 by decide)
      omega
  rcases h with h | ⟨h1, h2, h3⟩
  · exact absurd hz h
  have hv : varW (tl z) pl raw i = varW w0 pl raw i := by
    cases i with
    | zero => rw [h3 rfl]
    | succ j =>
      rw [h2 j rfl]
      unfold varW
      rw [List.set_set]
  refine ⟨fun j hj => ?_, fun j hj => ?_, fun hj => by omega⟩
  · by_cases e : j + 1 < i
    · exact h1 j e
    · have ei : i = j + 1 := by omega
      have := h2 j ei
      rw [← this]
      exact hz
  · obtain rfl : i = j := by omega
    rw [hz', hv]
theorem word_stay {w0 : List Nat} {pl : Nat} {raw : Int} {ws : List Str} {i : Nat} {z : Str} (h : WordI w0 pl raw ws i z) (hz : z ∉ ws) : WordI w0 pl raw ws (i + 1) z := ⟨h.1, h.2.1, .inl hz⟩
theorem ok__law_names {f : Addr} {fd : FuncData} {k : Nat} (F : Fun K "_law_names" "_law_names" s__law_names f fd) (T : Top K mg) : FnOk P w K mg base CX0 (k + 1) f fd ["_law_some", "_law_many"] (spNames K) := by
  have nd := sc__law_names.nd
  refine F.ok sc__law_names (fun vs H Q E h => ?_) (fun cdv A outer s H vs Q E hr h => ?_)
  · obtain ⟨a, rows, n, rfl, _⟩ := h
    rfl
  · obtain ⟨a, rows, n, rfl, hS, hlen, n2, hbd, q⟩ := h
    refine ⟨_, (pss_cons (ps_set (i := 2) nd rfl (.inr rfl) pe_str)
      (pss_cons (ps_set (i := 3) nd rfl (.inl rfl) (pe_lst pa_nil))
      (pss_cons (ps_for PassesOwn.never rfl (pi_range1 rfl T.m_range (pa_cons (pv 1) pa_nil)) (pg_name (i := 4) nd rfl (.inl rfl))
        (pss_cons (ps_set (i := 5) nd rfl (.inr rfl) (pe_ix ix_list (pv 0) (pv 4) (fun _ _ => rfl)))
          (pss_cons (ps_set (i := 6) nd rfl (.inl rfl) (pe_op op_add pe_int (pe_op op_mod (pv 5) pe_int)))
          (pss_cons (ps_set (i := 7) nd rfl (.inr rfl) (pe_op op_mod (pe_op op_fdiv (pv 5) pe_int) pe_int))
          (pss_cons (ps_set (i := 8) nd rfl (.inl rfl) (pe_join pe_str (pe_lc (own := [("_law_k", 12)]) (g := gName 12) (tt := tYes) rfl nd (pi_range1 rfl T.m_range (pa_cons (pv 6) pa_nil)) (blkOk_by (own := [("_law_k", 12)]) (N := Su.N__law_names) (sc := defScope s__law_names) (by decide +kernel)) (fun _ _ _ _ _ => (pg_name (i := 12) nd rfl (.inl rfl))) (fun _ _ _ _ _ => pts_nil) (fun _ _ _ _ _ => (pe_ix ix_str (pv 2) (pe_op op_mod (pe_op op_add (pe_op op_fdiv (pv 5) pe_int) (pe_op op_mul (pv 12) (pv 7))) pe_int) (fun _ _ => rfl))))))
          (pss_cons (ps_set (i := 9) nd rfl (.inl rfl) (pe_op op_mod (pe_op op_fdiv (pv 5) pe_int) (pv 6)))
          (pss_cons (ps_for PassesOwn.never rfl (pi_range1 rfl T.m_range (pa_cons pe_int pa_nil)) (pg_name (i := 10) nd rfl (.inl rfl))
            (pss_one (ps_if (pt_cmpR op_in_seq (pv 8) (pv 3) rfl)
                (pss_cons (ps_set (i := 11) nd rfl (.inl rfl) (pe_ix ix_str (pv 2) (pe_op op_mod (pe_op op_add (pv 5) (pv 10)) pe_int) (fun _ _ => rfl)))
                  (pss_one (ps_set (i := 8) nd rfl (.inl rfl) (pe_op op_add_str (pe_op op_add_str (pe_slice sl_str (pv 8) po_none (po_some (pv 9))) (pv 11)) (pe_slice sl_str (pv 8) (po_some (pe_op op_add (pv 9) pe_int)) po_none)))))
                pss_nil)))
          (pss_one (ps_expr (pe_bm PySem.F.plainAttrs_list PySem.F.slot_list_append PySem.F.type_list_append mt_append (pv 3) (pa_cons (pv 8) pa_nil)))))))))))
      (pss_one (ps_ret (pv 3)))))), ?_⟩
    refine q_asg (v := .str lettersS) ev_c fun H1 e1 => ?_
    refine q_asgL (el_lst ea_nil (by decide)) fun p H2 hp e2 h2 => ?_
    refine q_forR1 (by walk_at "ea") (by omega) (fun i σ' H' => ∃ (ws : List Str) (y4 y5 y6 y7 y8 y9 y10 y11 y12 : Option V), σ' = [some (.ref a), some (.int (n : Int)), some (.str lettersS), some (.ref p), y4, y5, y6, y7, y8, y9, y10, y11, y12] ∧ Ex H H' ∧ H' p = some (.lst (ws.map V.str)) ∧
      ws.length = i ∧ ws.Nodup ∧ ∀ z ∈ ws, NameOk z) ?_ ?_ ?_
    · intro H3 e3
      exact ⟨[], none, none, none, none, none, none, none, none, none, rfl, (e1.trans e2).trans e3, e3 p _ h2, rfl, List.nodup_nil, fun z hz => absurd hz List.not_mem_nil⟩
    · rintro i σ' H' hi ⟨ws, y4, y5, y6, y7, y8, y9, y10, y11, y12, rfl, ex, hp', hl, hnd, hok⟩
      have hs := ex_l ex hS
      refine q_asg (by walk_at "ev") fun H3 e3 => ?_
      have hs := ex_l e3 hs
      obtain ⟨raw, hraw, r1, r2⟩ : ∃ raw, rows.getD (i : Int).toNat 0 = raw ∧ -(10 ^ 18) < raw ∧ raw < 10 ^ 18 := ⟨_, rfl, (by
        rw [List.getD_eq_getElem?_getD, List.getElem?_eq_getElem (show (i : Int).toNat < rows.length by omega)]
        exact (hbd _ (List.getElem_mem _)).1), (by
        rw [List.getD_eq_getElem?_getD, List.getElem?_eq_getElem (show (i : Int).toNat < rows.length by omega)]
        exact (hbd _ (List.getElem_mem _)).2)⟩
      rw [hraw]
      clear hraw
      refine q_asg (by walk_at "ev") fun H4 e4 => ?_
      obtain ⟨size, hsz⟩ : ∃ size : Nat, 1 + raw % 12 = (size : Int) := ⟨(1 + raw % 12).toNat, by omega⟩
      have hs1 : 1 ≤ size ∧ size ≤ 12 := by omega
      rw [hsz]
      clear hsz
      refine q_asg (by walk_at "ev") fun H5 e5 => ?_
      -- word
      refine q_asg (ev_join (a := Str.ofString "") (ys := (List.range size).map fun k : Nat => (⟨#[97 + ((raw / 13 + (k : Int) * (raw / 5 % 4)) % 26).toNat]⟩ : Str)) ev_c ?_ ?_) fun H6 e6 => ?_
      · have hg : ((List.range size).map fun k : Nat => (⟨#[97 + ((raw / 13 + (k : Int) * (raw / 5 % 4)) % 26).toNat]⟩ : Str)).map V.str = given ((size : Int)).toNat (fun _ => true) fun k => .str ⟨#[97 + ((raw / 13 + (k : Int) * (raw / 5 % 4)) % 26).toNat]⟩ := by
          unfold given
          rw [List.filter_eq_self.mpr (fun _ _ => rfl), List.map_map, Int.toNat_natCast]
          rfl
        rw [hg]
        refine el_lcR1 (n := (size : Int)) _ _ (by walk_at "ea") (by omega) (fun _ => rfl) (fun _ _ _ _ => et_yes) fun k H6 e6 hk _ => ?_
        have g1 := Int.emod_nonneg (raw / 13 + (k : Int) * (raw / 5 % 4)) (show (26 : Int) ≠ 0 by decide)
        have g2 := Int.emod_lt_of_pos (raw / 13 + (k : Int) * (raw / 5 % 4)) (show (0 : Int) < 26 by decide)
        refine ev_letter (i := (raw / 13 + (k : Int) * (raw / 5 % 4)) % 26) (ev_var rfl) (by walk_at "ev") g1 g2
      · have hsum : ((((List.range size).map fun k : Nat => (⟨#[97 + ((raw / 13 + (k : Int) * (raw / 5 % 4)) % 26).toNat]⟩ : Str)).map (·.length)).sum) = size := by
          rw [List.map_map]
          have : ((fun z : Str => z.length) ∘ fun k : Nat => (⟨#[97 + ((raw / 13 + (k : Int) * (raw / 5 % 4)) % 26).toNat]⟩ : Str)) = fun _ => 1 := rfl
          rw [this, List.map_const', List.length_range, List.sum_replicate_nat, Nat.mul_one]
        rw [hsum, List.length_map, List.length_range]
        have : (Str.ofString "").length = 0 := by decide +kernel
        rw [this]
        omega
      have hwe : tl (Txt.join (Str.ofString "") ((List.range size).map fun k : Nat => (⟨#[97 + ((raw / 13 + (k : Int) * (raw / 5 % 4)) % 26).toNat]⟩ : Str))) = (List.range size).map fun k : Nat => 97 + ((raw / 13 + (k : Int) * (raw / 5 % 4)) % 26).toNat := by
        rw [join_eq]
        have h0 := tl_join (Str.ofString "") ((List.range size).map fun k : Nat => (⟨#[97 + ((raw / 13 + (k : Int) * (raw / 5 % 4)) % 26).toNat]⟩ : Str))
        have h1 : tl (Str.ofString "") = [] := by decide +kernel
        rw [h1, List.map_map] at h0
        have h2 : (tl ∘ fun k : Nat => (⟨#[97 + ((raw / 13 + (k : Int) * (raw / 5 % 4)) % 26).toNat]⟩ : Str)) = fun k : Nat => [97 + ((raw / 13 + (k : Int) * (raw / 5 % 4)) % 26).toNat] := rfl
        rw [h2, join_ones] at h0
        exact h0
      have hwl : (tl (Txt.join (Str.ofString "") ((List.range size).map fun k : Nat => (⟨#[97 + ((raw / 13 + (k : Int) * (raw / 5 % 4)) % 26).toNat]⟩ : Str)))).length = size := by rw [hwe, List.length_map, List.length_range]
      have hwc : ∀ c ∈ tl (Txt.join (Str.ofString "") ((List.range size).map fun k : Nat => (⟨#[97 + ((raw / 13 + (k : Int) * (raw / 5 % 4)) % 26).toNat]⟩ : Str))), 97 ≤ c ∧ c < 123 := fun c hc => by
        rw [hwe] at hc
        obtain ⟨k, _, rfl⟩ := List.mem_map.mp hc
        have := Int.emod_lt_of_pos (raw / 13 + (k : Int) * (raw / 5 % 4)) (show (0 : Int) < 26 by decide)
        omega
      clear hwe
      generalize Txt.join (Str.ofString "") ((List.range size).map fun k : Nat => (⟨#[97 + ((raw / 13 + (k : Int) * (raw / 5 % 4)) % 26).toNat]⟩ : Str)) = z0 at hwl hwc ⊢
      refine q_asg (by walk_at "ev") fun H7 e7 => ?_
      have p1 := Int.emod_nonneg (raw / 7) (show (size : Int) ≠ 0 by omega)
      have p2 := Int.emod_lt_of_pos (raw / 7) (show 0 < (size : Int) by omega)
      obtain ⟨pl, hpl⟩ : ∃ pl : Nat, raw / 7 % (size : Int) = (pl : Int) := ⟨(raw / 7 % (size : Int)).toNat, by omega⟩
      have hpl2 : pl < size := by omega
      rw [hpl]
      clear hpl
      have ex7 := (((((ex.trans e3).trans e4).trans e5).trans e6).trans e7)
      have hp7 := ex_g ((((e3.trans e4).trans e5).trans e6).trans e7) hp'
      refine q_forR1 (n := 26) (by walk_at "ea") (by omega) (fun j σ' H' => ∃ (z : Str) (y10 y11 : Option V), σ' = [some (.ref a), some (.int (n : Int)), some (.str lettersS), some (.ref p), some (.int (i : Int)), some (.int raw), some (.int (size : Int)), some (.int (raw / 5 % 4)), some (.str z), some (.int (pl : Int)), y10, y11, y12] ∧ Ex H7 H' ∧ WordI (tl z0) pl raw ws j z) ?_ ?_ ?_
      · intro H8 e8
        exact ⟨z0, y10, y11, rfl, e8, rfl, hwc, .inr ⟨fun j hj => by omega, fun j hj => by omega, fun _ => rfl⟩⟩
      · rintro j σ' H8 hj ⟨z, y10, y11, rfl, e8, hW⟩
        have hzl : z.length = size := by rw [len_tl, hW.1, hwl]
        have hp8 := ex_g e8 hp7
        refine s_when (et_test (ev_op (ev_var rfl) (ev_var rfl) (rv_isL (sq_of hp8) rfl flat_strs))) (fun hb H9 e9 => ?_) (fun hb H9 e9 => ?_)
        · rw [inV_str] at hb
          have hin := of_decide_eq_true hb
          have g1 := Int.emod_nonneg (raw + (j : Int)) (show (26 : Int) ≠ 0 by decide)
          have g2 := Int.emod_lt_of_pos (raw + (j : Int)) (show (0 : Int) < 26 by decide)
          refine q_asg (ev_letter (i := (raw + (j : Int)) % 26) (ev_var rfl) (by walk_at "ev") g1 g2) fun H10 e10 => ?_
          refine s_asg (ev_addS (ev_addS (ev_slS (lo := none) (hi := some (pl : Int)) (ev_var rfl) eo_none (eo_some (by walk_at "ev")) (by omega)) (ev_var rfl) ?_) (ev_slS (lo := some ((pl : Int) + 1)) (hi := none) (ev_var rfl) (eo_some (by walk_at "ev")) eo_none (by omega)) ?_) fun H11 e11 => ?_
          · have := cutS_length z none (some (pl : Int))
            show _ + 1 ≤ 100000
            omega
          · have h1 := cutS_length z none (some (pl : Int))
            have h2 := cutS_length z (some ((pl : Int) + 1)) none
            have h3 : (cutS z none (some (pl : Int)) ++ (⟨#[97 + ((raw + (j : Int)) % 26).toNat]⟩ : Str)).length = (cutS z none (some (pl : Int))).length + 1 := by
              rw [len_tl, tl_append, List.length_append, ← len_tl]
              rfl
            rw [h3]
            omega
          refine ⟨_, _, _, rfl, (e8.trans e9).trans (e10.trans e11), word_step hW hin ?_⟩
          rw [tl_append, tl_append, tl_cutTo, show ((pl : Int) + 1) = ((pl + 1 : Nat) : Int) by omega, tl_cutFrom]
          unfold varW
          rw [List.set_eq_take_append_cons_drop, if_pos (by rw [← len_tl]; omega), List.append_assoc]
          rfl
        · rw [inV_str] at hb
          exact ⟨_, _, _, rfl, e8.trans e9, word_stay hW (of_decide_eq_false hb)⟩
      · rintro σ' H8 ⟨z, y10, y11, rfl, e8, hW⟩
        dsimp only
        refine s_app (ex_g e8 hp7) (by walk_at "ev") (by walk_at "ev") (by rw [List.length_map]; omega) fun H9 e9 => ?_
        have hzn : z ∉ ws := by
          rcases hW.2.2 with h | ⟨h1, _, _⟩
          · exact h
          · exact (var_all (w := tl z0) (p := pl) (raw := raw) (ws := ws) (by omega) (by omega) fun j hj => h1 j (by omega)).elim
        refine ⟨ws ++ [z], _, _, _, _, _, _, _, _, _, rfl, ex_up ((ex7.trans e8).trans e9) (fresh_back e1 hp), by rw [upd_same, List.map_append]; rfl, by rw [List.length_append, hl]; rfl, ?_, ?_⟩
        · refine List.nodup_append.mpr ⟨hnd, List.nodup_cons.mpr ⟨List.not_mem_nil, List.nodup_nil⟩, ?_⟩
          intro x hx y hy e
          obtain rfl := List.mem_singleton.mp hy
          exact hzn (e ▸ hx)
        · intro x hx
          rcases List.mem_append.mp hx with h | h
          · exact hok x h
          · obtain rfl := List.mem_singleton.mp h
            unfold NameOk
            rw [hW.1, hwl]
            exact ⟨hs1.1, hs1.2, hW.2.1⟩
    · rintro σ' H' ⟨ws, y4, y5, y6, y7, y8, y9, y10, y11, y12, rfl, ex, hp', hl, hnd, hok⟩
      refine s_ret (by walk_at "ev") fun H3 e3 => ?_
      exact q ws H3 p (fresh_back e1 hp) (ex.trans e3) (ex_g e3 hp') (by omega) hnd hok
end

end Su
namespace Su
/-! ### what is known of a value is its data -/
section
variable {K : PySem.W.Frag} {σ : L2.St} {H : Hp} {te ta tb : TE} {tA : TA} {d : PyData} {ds : List PyData} {v : V} {xs : List V} {i : Int} {D : Ends} {tz : TS}
def EvD (K : PySem.W.Frag) (te : TE) (σ : L2.St) (H : Hp) (d : PyData) : Prop := ∀ H1, Ex H H1 → ∀ Q : VK, (∀ v H2, Ex H1 H2 → Dp K H2 v d → Q v H2) → te σ H1 Q
def EvAD (K : PySem.W.Frag) (ta : TA) (σ : L2.St) (H : Hp) (ds : List PyData) : Prop := ∀ H1, Ex H H1 → ∀ Q : List V → Hp → Prop, (∀ vs H2, Ex H1 H2 → DpAll K H2 vs ds → Q vs H2) → ta σ H1 Q
theorem EvD.mono {H' : Hp} (e : Ex H H') (h : EvD K te σ H d) : EvD K te σ H' d := fun H1 a Q q => h H1 (e.trans a) Q q
theorem evd_v (h : Ev te σ H v) (hd : Dp K H v d) : EvD K te σ H d := fun H1 e Q q => h H1 e _ fun H2 e2 => q v H2 e2 (dp_ex (e.trans e2) hd)
theorem evd_int (h : Ev te σ H (.int i)) : EvD K te σ H (.int i) := evd_v h (.int i)
theorem evd_bl {b : Bool} (h : Ev te σ H (.bl b)) : EvD K te σ H (.bool b) := evd_v h (.bl b)
theorem evd_str {z : Str} (h : Ev te σ H (.str z)) : EvD K te σ H (.str z) := evd_v h (.str z)
theorem evd_L (h : EvL te σ H xs) (hd : DpAll K H xs ds) : EvD K te σ H (.list ds) := fun H1 e Q q => h H1 e _ fun p H2 _ e2 h2 => q _ H2 e2 (.lst (sq_of h2) (dpa_ex (e.trans e2) hd))
theorem evd_U (h : EvU te σ H xs) (hd : DpAll K H xs ds) : EvD K te σ H (.tuple ds) := fun H1 e Q q => h H1 e _ fun p H2 _ e2 h2 => q _ H2 e2 (.tup (st_of h2) (dpa_ex (e.trans e2) hd))
theorem evad_nil : EvAD K tNil σ H [] := fun H1 _ _ q => q [] H1 (Ex.refl H1) .nil
theorem evad_cons {tr : TA} (h : EvD K te σ H d) (hr : EvAD K tr σ H ds) : EvAD K (tCons te tr) σ H (d :: ds) := fun H1 e Q q => h H1 e _ fun v H2 e2 hv => hr H2 (e.trans e2) _ fun vs H3 e3 hvs => q _ H3 (e2.trans e3) (.cons (dp_ex e3 hv) hvs)
theorem evd_lst (h : EvAD K tA σ H ds) (hl : ds.length ≤ 1000 := by simp) : EvD K (tLst tA) σ H (.list ds) := fun H1 e Q q => h H1 e _ fun vs H2 e2 hv => ⟨sz_of (by rw [dpa_len hv]; omega), fun p hp => q _ _ (e2.trans (Ex.new hp)) (.lst (sq_of upd_same) (dpa_ex (Ex.new hp) hv))⟩
theorem evd_tup (h : EvAD K tA σ H ds) (hl : ds.length ≤ 1000 := by simp) : EvD K (tTup tA) σ H (.tuple ds) := fun H1 e Q q => h H1 e _ fun vs H2 e2 hv => ⟨sz_of (by rw [dpa_len hv]; omega), fun p hp => q _ _ (e2.trans (Ex.new hp)) (.tup (st_of upd_same) (dpa_ex (Ex.new hp) hv))⟩
theorem q_asgD {j : Nat} (h : EvD K te σ H d) (k : ∀ v H1, Ex H H1 → Dp K H1 v d → tz D (σ.set j (some v)) H1) : tSeq (tAsg te (gName j)) tz D σ H := h H (Ex.refl H) _ fun v H1 e1 hv => k v H1 e1 hv
theorem ev_sameD {n : Nat} {E : XK} (hp : PlD n d) (h1 : EvD K ta σ H d) (h2 : EvD K tb σ H d) : Ev (tCall (spSame K n) [] E (tCons ta (tCons tb tNil))) σ H (.bl true) := fun H1 e Q q =>
  h1 H1 e _ fun v H2 e2 hv => h2 H2 (e.trans e2) _ fun w H3 e3 hw => spV_same hp (dp_ex e3 hv) hw H3 (Ex.refl _) Q (fun H4 e4 => q H4 ((e2.trans e3).trans e4)) E
theorem et_sameD {n : Nat} {E : XK} (hp : PlD n d) (h1 : EvD K ta σ H d) (h2 : EvD K tb σ H d) : EvT (tB (tCall (spSame K n) [] E (tCons ta (tCons tb tNil)))) σ H true := et_B (ev_sameD hp h1 h2)
theorem dpa_intsV {ns : List Int} : DpAll K H (ns.map V.int) (ns.map PyData.int) := dpa_of V.int PyData.int ns fun i _ => .int i
theorem eu_tupOf {p : Addr} (ha : Ev te σ H (.ref p)) (h : SqL K H p xs) : EvU (tCB (fun xs H Q => ∃ p ys, xs = [V.ref p] ∧ ((SqL K H p ys ∧ ∀ l, H l = none → Q (.ref l) (upd H l (.tup ys))) ∨ (SqT K H p ys ∧ Q (.ref p) H))) (tCons te tNil)) σ H xs := fun H0 e Q q =>
  ha H0 e _ fun H1 e1 => ⟨p, xs, rfl, .inl ⟨ex_l (e.trans e1) h, fun l hl => q l _ (fresh_back e1 hl) (e1.trans (Ex.new hl)) upd_same⟩⟩
theorem rc_intB {b : Bool} : RC (fun xs H Q => (∃ i, xs = [V.int i] ∧ Q (.int i) H) ∨ ∃ k, xs = [V.bl k] ∧ Q (.int (if k = true then 1 else 0)) H) [.bl b] H (.int (if b = true then 1 else 0)) := fun H1 _ _ q => .inr ⟨b, rfl, q H1 (Ex.refl H1)⟩
theorem pld_ints {n : Nat} {ns : List Int} (h : ns.length ≤ 1000) : PlD (n + 1) (.list (ns.map PyData.int)) := .list (by rw [List.length_map]; exact h) fun x hx => by
  obtain ⟨z, _, rfl⟩ := List.mem_map.mp hx
  exact .int z
/-- {a: x, b: y, c: z}[k] -/
theorem ev_dsel {a1 a2 a3 k : Str} {t1 t2 t3 tk : TE} {v1 v2 v3 : V} (h1 : Ev t1 σ H v1) (h2 : Ev t2 σ H v2) (h3 : Ev t3 σ H v3) (hk : Ev tk σ H (.str k)) (n12 : ¬ a1 = a2) (n13 : ¬ a1 = a3) (n23 : ¬ a2 = a3) (hv : (if k = a1 then some v1 else if k = a2 then some v2 else if k = a3 then some v3 else none) = some v) :
    Ev (tDGet (tDisp [(tC (.str a1), t1), (tC (.str a2), t2), (tC (.str a3), t3)]) tk) σ H v := fun H0 e Q q => fun p hp => by
  refine h1 _ (e.trans (Ex.new hp)) _ fun H1 e1 => h2 H1 ((e.trans (Ex.new hp)).trans e1) _ fun H2 e2 => h3 H2 (((e.trans (Ex.new hp)).trans e1).trans e2) _ fun H3 e3 => ?_
  have e03 : Ex (upd H0 p (.dK [])) H3 := (e1.trans e2).trans e3
  refine ⟨e03 _ _ upd_same, [(.inr a1, v1), (.inr a2, v2), (.inr a3, v3)], rfl, by show 3 ≤ 15; decide, ?_⟩
  have em : mergeK [] [(Sum.inr a1, v1), (Sum.inr a2, v2), (Sum.inr a3, v3)] = [((Sum.inr a1 : Key), v1), (.inr a2, v2), (.inr a3, v3)] := by
    have i12 : ¬ (Sum.inr a1 : Key) = .inr a2 := fun z => n12 (Sum.inr.inj z)
    have i13 : ¬ (Sum.inr a1 : Key) = .inr a3 := fun z => n13 (Sum.inr.inj z)
    have i23 : ¬ (Sum.inr a2 : Key) = .inr a3 := fun z => n23 (Sum.inr.inj z)
    unfold mergeK
    simp [putK, i12, i13, i23]
  have ex : Ex H0 (upd H3 p (.dK (mergeK [] [(Sum.inr a1, v1), (Sum.inr a2, v2), (Sum.inr a3, v3)]))) := Ex.mut ((Ex.new hp).trans e03) hp
  refine hk _ (e.trans ex) _ fun H4 e4 => ⟨p, v, rfl, ?_, q H4 (ex.trans e4)⟩
  refine .inl ⟨_, .inr k, .inl (e4 _ _ upd_same), rfl, ?_⟩
  rw [em]
  unfold valV
  by_cases c1 : k = a1
  · rw [if_pos c1] at hv
    subst c1
    simp [← hv]
  · rw [if_neg c1] at hv
    have d1 : ¬ (Sum.inr a1 : Key) = .inr k := fun z => c1 (Sum.inr.inj z).symm
    by_cases c2 : k = a2
    · rw [if_pos c2] at hv
      subst c2
      simp [d1, ← hv]
    · rw [if_neg c2] at hv
      have d2 : ¬ (Sum.inr a2 : Key) = .inr k := fun z => c2 (Sum.inr.inj z).symm
      by_cases c3 : k = a3
      · rw [if_pos c3] at hv
        subst c3
        simp [d1, d2, ← hv]
      · rw [if_neg c3] at hv
        cases hv
end

end Su
namespace Su
/-! ### instances: their attributes by place -/
theorem zip_lookup : ∀ {ns : List Str} {vs : List V} {i : Nat} {f : Str} {v : V}, ns.Nodup → ns[i]? = some f → vs[i]? = some v → (ns.zip vs).lookup f = some v
  | [], _, i, f, v, _, h, _ => by simp at h
  | _ :: _, [], i, f, v, _, _, h => by simp at h
  | n :: ns, w :: vs, 0, f, v, _, h1, h2 => by
    obtain rfl : n = f := Option.some.inj h1
    obtain rfl : w = v := Option.some.inj h2
    show List.lookup n ((n, w) :: ns.zip vs) = _
    simp [List.lookup]
  | n :: ns, w :: vs, i + 1, f, v, hn, h1, h2 => by
    obtain ⟨n1, n2⟩ := List.nodup_cons.mp hn
    have hne : (f == n) = false := beq_eq_false_iff_ne.mpr fun z => n1 (by rw [← z]; exact List.mem_of_getElem? h1)
    show List.lookup f ((n, w) :: ns.zip vs) = _
    simp only [List.lookup, hne]
    exact zip_lookup n2 h1 h2
theorem zip_none : ∀ {ns : List Str} {vs : List V} {f : Str}, f ∉ ns → (ns.zip vs).lookup f = none
  | [], _, f, _ => rfl
  | _ :: _, [], f, _ => rfl
  | n :: ns, w :: vs, f, h => by
    have hne : (f == n) = false := beq_eq_false_iff_ne.mpr fun z => h (by rw [z]; exact List.mem_cons_self)
    show List.lookup f ((n, w) :: ns.zip vs) = _
    simp only [List.lookup, hne]
    exact zip_none fun z => h (List.mem_cons_of_mem _ z)
theorem zip_put : ∀ {ns : List Str} {vs : List V} {i : Nat} {f : Str} {v : V}, ns.Nodup → ns[i]? = some f → i < vs.length → putF f v (ns.zip vs) = ns.zip (vs.set i v)
  | [], _, i, f, v, _, h, _ => by simp at h
  | _ :: _, [], i, f, v, _, _, h => by simp at h
  | n :: ns, w :: vs, 0, f, v, _, h1, h2 => by
    obtain rfl : n = f := Option.some.inj h1
    show (if n = n then (n, v) :: ns.zip vs else _) = _
    rw [if_pos rfl]
    rfl
  | n :: ns, w :: vs, i + 1, f, v, hn, h1, h2 => by
    obtain ⟨n1, n2⟩ := List.nodup_cons.mp hn
    show (if n = f then (n, v) :: ns.zip vs else (n, w) :: putF f v (ns.zip vs)) = _
    rw [if_neg fun z => n1 (by rw [z]; exact List.mem_of_getElem? h1), zip_put n2 h1 (by rw [List.length_cons] at h2; omega)]
    rfl
theorem zip_snoc : ∀ {ns : List Str} {vs : List V} {f : Str} {v : V}, f ∉ ns → ns.length = vs.length → putF f v (ns.zip vs) = (ns ++ [f]).zip (vs ++ [v])
  | [], [], f, v, _, _ => rfl
  | [], _ :: _, _, _, _, h => by cases h
  | _ :: _, [], _, _, _, h => by cases h
  | n :: ns, w :: vs, f, v, h1, h2 => by
    show (if n = f then (n, v) :: ns.zip vs else (n, w) :: putF f v (ns.zip vs)) = _
    rw [if_neg fun z => h1 (by rw [z]; exact List.mem_cons_self), zip_snoc (fun z => h1 (List.mem_cons_of_mem _ z)) (by rw [List.length_cons, List.length_cons] at h2; omega)]
    rfl
section
variable {X : Cx} {K : PySem.W.Frag}
theorem pe_fldK {e : Expr} {f : Str} {pos : Pos} {ta : TE} (h : X.K = K) (he : PE X e ta) (hb : attributeBase e f X.env (eval e X.env) = eval e X.env) : PE X (.Attribute e f pos) (tFld K ta f) := h ▸ pe_fld he hb
theorem ps_fldK {o value : Expr} {f : Str} {pos pos' : Pos} {ta tv : TE} (h : X.K = K) (ha : PE X o ta) (hv : PE X value tv) (hs : swapsWith value (some (.Attribute o f pos')) pos.line X.env = pure false) : PS X (.Assign [.Attribute o f pos'] value pos) (sFld K ta tv f) := h ▸ ps_fld ha hv hs
theorem ps_fldaugK {o value : Expr} {f : Str} {pos tpos : Pos} {ta tv : TE} {op : Operator} {rd : V → V → Hp → VK → Prop} (h : X.K = K) (ha : PE X o ta) (hv : PE X value tv) (hop : InOp X op rd) : PS X (.AugAssign (.Attribute o f tpos) op value pos) (sFldAug K ta tv rd f) := h ▸ ps_fldaug ha hv hop
end
section
variable {K : PySem.W.Frag} {σ : L2.St} {H : Hp} {a C dx : Addr} {fs : List (Str × V)} {ta tv : TE} {t : TA} {f m : Str} {sp : Sp} {dvs vs xs : List V} {E : XK} {v z : V} {D : Ends} {tz : TS}
theorem ev_fld (h : Ev ta σ H (.ref a)) (ha : H a = some (.ins C dx fs)) (c : Cls K C) (n : NoAttr K C f) (hv : fs.lookup f = some v) : Ev (tFld K ta f) σ H v := fun H1 e Q q =>
  h H1 e _ fun H2 e2 => ⟨a, C, dx, fs, v, rfl, (e.trans e2) _ _ ha, c, n, hv, q H2 e2⟩
theorem s_fld (hv : Ev tv σ H v) (h : Ev ta σ H (.ref a)) (ha : H a = some (.ins C dx fs)) (c : Cls K C) (n : NoAttr K C f) (hl : fs.length < 1000) (k : ∀ H1, Ex H H1 → D.nx σ (upd H1 a (.ins C dx (putF f v fs)))) : sFld K ta tv f D σ H :=
  hv H (Ex.refl H) _ fun H1 e1 => h H1 e1 _ fun H2 e2 => ⟨a, C, dx, fs, rfl, (e1.trans e2) _ _ ha, c, n, hl, k H2 (e1.trans e2)⟩
theorem q_fld (hv : Ev tv σ H v) (h : Ev ta σ H (.ref a)) (ha : H a = some (.ins C dx fs)) (c : Cls K C) (n : NoAttr K C f) (hl : fs.length < 1000) (k : ∀ H1, Ex H H1 → tz D σ (upd H1 a (.ins C dx (putF f v fs)))) : tSeq (sFld K ta tv f) tz D σ H := s_fld (D := { D with nx := tz D }) hv h ha c n hl k
theorem s_fldL (hv : EvL tv σ H xs) (h : Ev ta σ H (.ref a)) (ha : H a = some (.ins C dx fs)) (c : Cls K C) (n : NoAttr K C f) (hl : fs.length < 1000) (k : ∀ p H1, H p = none → Ex H H1 → H1 p = some (.lst xs) → D.nx σ (upd H1 a (.ins C dx (putF f (.ref p) fs)))) : sFld K ta tv f D σ H :=
  hv H (Ex.refl H) _ fun p H1 hp e1 h1 => h H1 e1 _ fun H2 e2 => ⟨a, C, dx, fs, rfl, (e1.trans e2) _ _ ha, c, n, hl, k p H2 hp (e1.trans e2) (e2 _ _ h1)⟩
theorem q_fldL (hv : EvL tv σ H xs) (h : Ev ta σ H (.ref a)) (ha : H a = some (.ins C dx fs)) (c : Cls K C) (n : NoAttr K C f) (hl : fs.length < 1000) (k : ∀ p H1, H p = none → Ex H H1 → H1 p = some (.lst xs) → tz D σ (upd H1 a (.ins C dx (putF f (.ref p) fs)))) : tSeq (sFld K ta tv f) tz D σ H := s_fldL (D := { D with nx := tz D }) hv h ha c n hl k
/-- e.f op= value, of whole numbers -/
theorem s_fldaug {rd : V → V → Hp → VK → Prop} {w : V} (h : Ev ta σ H (.ref a)) (ha : H a = some (.ins C dx fs)) (c : Cls K C) (n : NoAttr K C f) (hf : fs.lookup f = some w) (hv : Ev tv σ H v) (hr : ∀ H1 (Q : VK), Ex H H1 → Q z H1 → rd w v H1 Q) (hl : fs.length < 1000)
    (k : ∀ H1, Ex H H1 → D.nx σ (upd H1 a (.ins C dx (putF f z fs)))) : sFldAug K ta tv rd f D σ H :=
  h H (Ex.refl H) _ fun H1 e1 => ⟨a, C, dx, fs, w, rfl, e1 _ _ ha, c, n, hf, hv H1 e1 _ fun H2 e2 => hr H2 _ (e1.trans e2) ⟨dx, fs, (e1.trans e2) _ _ ha, hl, k H2 (e1.trans e2)⟩⟩
theorem ev_meth (h : Ev ta σ H (.ref a)) (ha : H a = some (.ins C dx fs)) (hm : fs.lookup m = none) (hA : EvA t σ H vs) (hs : SpV sp (.ref a :: (vs ++ dvs)) H z) : Ev (tMeth C m sp dvs E ta t) σ H z := fun H1 e Q q =>
  h H1 e _ fun H2 e2 => ⟨a, dx, fs, rfl, (e.trans e2) _ _ ha, hm, hA H2 (e.trans e2) _ fun H3 e3 => hs H3 ((e.trans e2).trans e3) Q (fun H4 e4 => q H4 ((e2.trans e3).trans e4)) E⟩
theorem el_meth (h : Ev ta σ H (.ref a)) (ha : H a = some (.ins C dx fs)) (hm : fs.lookup m = none) (hA : EvA t σ H vs) (hs : SpL sp (.ref a :: (vs ++ dvs)) H xs) : EvL (tMeth C m sp dvs E ta t) σ H xs := fun H1 e Q q =>
  h H1 e _ fun H2 e2 => ⟨a, dx, fs, rfl, (e.trans e2) _ _ ha, hm, hA H2 (e.trans e2) _ fun H3 e3 => hs H3 ((e.trans e2).trans e3) Q (fun p H4 hp e4 h4 => q p H4 (fresh_back (e2.trans e3) hp) ((e2.trans e3).trans e4) h4) E⟩
/-- a call that hands back a new tuple -/
def SpU (sp : Sp) (vs : List V) (H : Hp) (xs : List V) : Prop := ∀ H1, Ex H H1 → ∀ Q : VK, (∀ p H2, H1 p = none → Ex H1 H2 → H2 p = some (.tup xs) → Q (.ref p) H2) → ∀ E : XK, sp vs H1 Q E
theorem eu_meth (h : Ev ta σ H (.ref a)) (ha : H a = some (.ins C dx fs)) (hm : fs.lookup m = none) (hA : EvA t σ H vs) (hs : SpU sp (.ref a :: (vs ++ dvs)) H xs) : EvU (tMeth C m sp dvs E ta t) σ H xs := fun H1 e Q q =>
  h H1 e _ fun H2 e2 => ⟨a, dx, fs, rfl, (e.trans e2) _ _ ha, hm, hA H2 (e.trans e2) _ fun H3 e3 => hs H3 ((e.trans e2).trans e3) Q (fun p H4 hp e4 h4 => q p H4 (fresh_back (e2.trans e3) hp) ((e2.trans e3).trans e4) h4) E⟩
theorem eu_call {ta : TA} (h : EvA ta σ H vs) (hs : SpU sp (vs ++ dvs) H xs) : EvU (tCall sp dvs E ta) σ H xs := fun H1 e Q q =>
  h H1 e _ fun H2 e2 => hs H2 (e.trans e2) Q (fun p H3 hp e3 h3 => q p H3 (fresh_back e2 hp) (e2.trans e3) h3) E
/-- any method's call, raw -/
theorem te_meth {Q : VK} (h : Ev ta σ H (.ref a)) (ha : H a = some (.ins C dx fs)) (hm : fs.lookup m = none) (hA : EvA t σ H vs) (k : ∀ H1, Ex H H1 → sp (.ref a :: (vs ++ dvs)) H1 Q E) : tMeth C m sp dvs E ta t σ H Q :=
  h H (Ex.refl H) _ fun H2 e2 => ⟨a, dx, fs, rfl, e2 _ _ ha, hm, hA H2 e2 _ fun H3 e3 => k H3 (e2.trans e3)⟩
theorem te_methX {Q : VK} (h : Ev ta σ H (.ref a)) (ha : H a = some (.ins C dx fs)) (hm : fs.lookup m = none) (k : ∀ H1, Ex H H1 → t σ H1 fun vs H2 => sp (.ref a :: (vs ++ dvs)) H2 Q E) : tMeth C m sp dvs E ta t σ H Q :=
  h H (Ex.refl H) _ fun H2 e2 => ⟨a, dx, fs, rfl, e2 _ _ ha, hm, k H2 e2⟩
theorem te_makeX {Q : VK} (k : t σ H fun vs H1 => ∀ x y, H1 x = none → H1 y = none → y ≠ x → sp (.ref x :: (vs ++ dvs)) (upd (upd H1 y (.own x)) x (.ins C y [])) (fun v H2 => v = .non ∧ Q (.ref x) H2) E) : tMake C sp dvs E t σ H Q := k
theorem te_make {Q : VK} (hA : EvA t σ H vs) (k : ∀ x y H1, Ex H H1 → H1 x = none → H1 y = none → y ≠ x → sp (.ref x :: (vs ++ dvs)) (upd (upd H1 y (.own x)) x (.ins C y [])) (fun v H2 => v = .non ∧ Q (.ref x) H2) E) : tMake C sp dvs E t σ H Q :=
  hA H (Ex.refl H) _ fun H1 e1 x y hx hy hne => k x y H1 e1 hx hy hne
end
/-! ### all but some places (and the tables) stays -/
def Fr (F : List Addr) (H H' : Hp) : Prop := ∀ a o, H a = some o → (∀ ps, o ≠ .tbl ps) → a ∉ F → H' a = some o
def Nw (H : Hp) (p : Addr) : Prop := ∀ o, H p = some o → ∃ ps, o = .tbl ps
theorem Nw.of {H : Hp} {p : Addr} (h : H p = none) : Nw H p := fun o z => by rw [h] at z; cases z
theorem Nw.back {H H' : Hp} {p : Addr} (e : LamX.ExtN H H') (h : Nw H' p) : Nw H p := fun o z => by
  cases o with
  | tbl ps => exact ⟨ps, rfl⟩
  | _ => exact h _ (e _ _ z fun _ q => nomatch q)
theorem Fr.refl (F : List Addr) (H : Hp) : Fr F H H := fun _ _ h _ _ => h
theorem Fr.trans {F : List Addr} {H H1 H2 : Hp} (a : Fr F H H1) (b : Fr F H1 H2) : Fr F H H2 := fun x o h n hx => b x o (a x o h n hx) n hx
theorem Fr.ex {F : List Addr} {H H' : Hp} (e : Ex H H') : Fr F H H' := fun x o h _ _ => e x o h
theorem Fr.exN {F : List Addr} {H H' : Hp} (e : LamX.ExtN H H') : Fr F H H' := fun x o h n _ => e x o h n
theorem Fr.mono {F G : List Addr} {H H' : Hp} (a : Fr F H H') (h : ∀ x ∈ F, x ∈ G) : Fr G H H' := fun x o hx n hg => a x o hx n fun z => hg (h x z)
theorem Fr.upd {F : List Addr} {H H' : Hp} {p : Addr} {o : HO} (a : Fr F H H') (h : p ∈ F) : Fr F H (upd H' p o) := fun x u hx n hf => by
  rw [upd_ne fun z => hf (by rw [z]; exact h)]
  exact a x u hx n hf
theorem Fr.new {F : List Addr} {H H' : Hp} {p : Addr} {o : HO} (a : Fr F H H') (h : Nw H p) : Fr F H (L2.upd H' p o) := fun x u hx n hf => by
  rw [upd_ne fun z => by rw [z] at hx; obtain ⟨ps, e⟩ := h u hx; exact n ps e]
  exact a x u hx n hf
/-- what is new to H0 may change: all of H0 stays -/
theorem ext_of {F : List Addr} {H0 H H' : Hp} (e : LamX.ExtN H0 H) (f : Fr F H H') (h : ∀ a ∈ F, Nw H0 a) : LamX.ExtN H0 H' := fun x o hx n => f x o (e x o hx n) n fun z => by
  obtain ⟨ps, q⟩ := h x z o hx
  exact n ps q
theorem Fr.l {F : List Addr} {H H' : Hp} {a : Addr} {xs : List V} (f : Fr F H H') (h : H a = some (.lst xs)) (n : a ∉ F) : H' a = some (.lst xs) := f a _ h (fun _ z => nomatch z) n
theorem Fr.t {F : List Addr} {H H' : Hp} {a : Addr} {xs : List V} (f : Fr F H H') (h : H a = some (.tup xs)) (n : a ∉ F) : H' a = some (.tup xs) := f a _ h (fun _ z => nomatch z) n
theorem Fr.i {F : List Addr} {H H' : Hp} {a C dx : Addr} {fs : List (Str × V)} (f : Fr F H H') (h : H a = some (.ins C dx fs)) (n : a ∉ F) : H' a = some (.ins C dx fs) := f a _ h (fun _ z => nomatch z) n
/-! ### comprehensions whose element makes something -/
section
variable {K : PySem.W.Frag} {σ : L2.St} {H : Hp} {tt : TT} {te : TE} {g : TG} {vs : List Nat} {a b : Addr} {xs ys : List V} {ta : TA} {Q : VK}
theorem rz_lc (h : EvA ta σ H [.ref a, .ref b]) (hx : SqL K H a xs) (hy : SqL K H b ys) (hl : xs.length = ys.length) (Pv : Addr → Nat → Hp → Prop) (h0 : ∀ D H1, Ex H H1 → H1 D = none → Pv D 0 (upd H1 D (.lst []))) (hq : ∀ D i H', Pv D i H' → SqL K H' a xs ∧ SqL K H' b ys)
    (hs : ∀ D i x y T H', xs[i]? = some x → ys[i]? = some y → Pv D i H' → H' T = none → g (.ref T) (wipe σ vs) (upd H' T (.tup [x, y])) fun σ2 H2 => wipe σ2 vs = wipe σ vs ∧ tt σ2 H2 fun b H3 =>
      if b = true then te σ2 H3 fun y H4 => ∃ acc, H4 D = some (.lst acc) ∧ acc.length < sizeLine ∧ Pv D (i + 1) (upd H4 D (.lst (acc ++ [y]))) else Pv D (i + 1) H3)
    (hd : ∀ D H', Pv D xs.length H' → Q (.ref D) H') : tLc (RZ.iZipA K ta) g tt te vs σ H Q := h H (Ex.refl H) _ fun H1 e1 => ⟨a, b, xs, ys, rfl, .inl ⟨ex_l e1 hx, ex_l e1 hy, fun Dl hD => by
  refine ⟨fun i m H' => m = xs.length - i ∧ i ≤ xs.length ∧ Pv Dl i H', ⟨xs.length, by simp, Nat.zero_le _, h0 Dl H1 e1 hD⟩, ?_⟩
  rintro i m H' ⟨rfl, hi, p⟩
  obtain ⟨hX, hY⟩ := hq Dl i H' p
  by_cases hlt : i < xs.length
  · have hlt2 : i < ys.length := by omega
    refine .inr ⟨⟨xs, ys, xs[i], ys[i], hX, hY, List.getElem?_eq_getElem hlt, List.getElem?_eq_getElem hlt2⟩, Pv Dl (i + 1), fun H2 p' => ⟨xs.length - (i + 1), by omega, rfl, hlt, p'⟩, fun z H2 hzz => ?_⟩
    obtain ⟨T, x, y, rfl, nT, rfl, hxx, hyy⟩ := hzz
    exact hs Dl i x y T H' (hxx xs hX) (hyy ys hY) p nT
  · have ei : i = xs.length := by omega
    subst ei
    exact .inl ⟨⟨xs, ys, hX, hY, .inl (Nat.le_refl _)⟩, hd Dl H' p⟩⟩⟩
theorem rl_lc {tl : TE} (h : Ev tl σ H (.ref a)) (hx : SqL K H a xs) (Pv : Addr → Nat → Hp → Prop) (h0 : ∀ D H1, Ex H H1 → H1 D = none → Pv D 0 (upd H1 D (.lst []))) (hq : ∀ D i H', Pv D i H' → SqL K H' a xs)
    (hs : ∀ D i x H', xs[i]? = some x → Pv D i H' → g x (wipe σ vs) H' fun σ2 H2 => wipe σ2 vs = wipe σ vs ∧ tt σ2 H2 fun b H3 =>
      if b = true then te σ2 H3 fun y H4 => ∃ acc, H4 D = some (.lst acc) ∧ acc.length < sizeLine ∧ Pv D (i + 1) (upd H4 D (.lst (acc ++ [y]))) else Pv D (i + 1) H3)
    (hd : ∀ D H', Pv D xs.length H' → Q (.ref D) H') : tLc (iList K tl) g tt te vs σ H Q := h H (Ex.refl H) _ fun H1 e1 => ⟨a, rfl, ⟨xs, ex_l e1 hx⟩, fun Dl hD => lc_list (xs := xs) (Pv Dl) (h0 Dl H1 e1 hD) (fun i H' _ p => hq Dl i H' p) (fun i x H' hi p => hs Dl i x H' hi p) (fun H' p => hd Dl H' p)⟩
end
/-! ### all but some places stays, the tables too -/
def ExF (F : List Addr) (H H' : Hp) : Prop := ∀ a o, H a = some o → a ∉ F → H' a = some o
theorem ExF.refl (F : List Addr) (H : Hp) : ExF F H H := fun _ _ h _ => h
theorem ExF.trans {F : List Addr} {H H1 H2 : Hp} (a : ExF F H H1) (b : ExF F H1 H2) : ExF F H H2 := fun x o h hx => b x o (a x o h hx) hx
theorem ExF.ex {F : List Addr} {H H' : Hp} (e : Ex H H') : ExF F H H' := fun x o h _ => e x o h
theorem ExF.upd {F : List Addr} {H H' : Hp} {p : Addr} {o : HO} (a : ExF F H H') (h : p ∈ F) : ExF F H (L2.upd H' p o) := fun x u hx hf => by
  rw [upd_ne fun z => hf (by rw [z]; exact h)]
  exact a x u hx hf
theorem ExF.new {F : List Addr} {H H' : Hp} {p : Addr} {o : HO} (a : ExF F H H') (h : H p = none) : ExF F H (L2.upd H' p o) := fun x u hx hf => by
  rw [upd_ne fun z => by rw [z, h] at hx; cases hx]
  exact a x u hx hf
theorem ExF.mono {F G : List Addr} {H H' : Hp} (a : ExF F H H') (h : ∀ x ∈ F, x ∈ G) : ExF G H H' := fun x o hx hg => a x o hx fun z => hg (h x z)
theorem ExF.fr {F : List Addr} {H H' : Hp} (a : ExF F H H') : Fr F H H' := fun x o h _ hx => a x o h hx
theorem ExF.l {F : List Addr} {H H' : Hp} {a : Addr} {xs : List V} (f : ExF F H H') (h : H a = some (.lst xs)) (n : a ∉ F) : H' a = some (.lst xs) := f a _ h n
/-- lists and instances, or nothing -/
def Soft (F : List Addr) (H : Hp) : Prop := ∀ a ∈ F, H a = none ∨ (∃ xs, H a = some (.lst xs)) ∨ ∃ C dx fs, H a = some (.ins C dx fs)
theorem tabs_exF {T : List (Addr × Str)} {F : List Addr} {H H' : Hp} (t : LamX.Tabs T H) (e : ExF F H H') (s : Soft F H) : LamX.Tabs T H' := fun q hq => by
  obtain ⟨ps, h1, h2, h3⟩ := t q hq
  refine ⟨ps, e _ _ h1 fun z => ?_, h2, fun pos cv hc => ?_⟩
  · rcases s _ z with h | ⟨xs, h⟩ | ⟨C, dx, fs, h⟩ <;> rw [h1] at h <;> cases h
  · obtain ⟨c, e1, e2⟩ := h3 pos cv hc
    refine ⟨c, e1, e _ _ e2 fun z => ?_⟩
    rcases s _ z with h | ⟨xs, h⟩ | ⟨C, dx, fs, h⟩ <;> rw [e2] at h <;> first | cases h | (unfold LamX.CodeO at h; cases h)
theorem q_asgX {te : TE} {σ : L2.St} {H : Hp} {i : Nat} {D : Ends} {tz : TS} (k : te σ H fun v H1 => tz D (σ.set i (some v)) H1) : tSeq (tAsg te (gName i)) tz D σ H := k
theorem q_fldX {K : PySem.W.Frag} {tv : TE} {σ : L2.St} {H : Hp} {i : Nat} {f : Str} {D : Ends} {tz : TS} (k : tv σ H fun v H1 => tVar i σ H1 fun x H2 => ∃ a C dx fs, x = .ref a ∧ H2 a = some (.ins C dx fs) ∧ Cls K C ∧ NoAttr K C f ∧ fs.length < 1000 ∧ tz D σ (L2.upd H2 a (.ins C dx (putF f v fs)))) : tSeq (sFld K (tVar i) tv f) tz D σ H := k
theorem fld_end {K : PySem.W.Frag} {σ : L2.St} {H : Hp} {i : Nat} {a C dx : Addr} {fs : List (Str × V)} {f : Str} {D : Ends} {tz : TS} {v : V} (hi : σ[i]? = some (some (.ref a))) (ha : H a = some (.ins C dx fs)) (c : Cls K C) (n : NoAttr K C f) (hl : fs.length < 1000) (k : tz D σ (L2.upd H a (.ins C dx (putF f v fs)))) :
    tVar i σ H fun x H2 => ∃ a C dx fs, x = .ref a ∧ H2 a = some (.ins C dx fs) ∧ Cls K C ∧ NoAttr K C f ∧ fs.length < 1000 ∧ tz D σ (L2.upd H2 a (.ins C dx (putF f v fs))) := ⟨_, hi, a, C, dx, fs, rfl, ha, c, n, hl, k⟩
theorem q_dropX {te : TE} {σ : L2.St} {H : Hp} {D : Ends} {tz : TS} (k : te σ H fun _ H1 => tz D σ H1) : tSeq (tDrop te) tz D σ H := k
theorem q_asgXg {te : TE} {g : TG} {σ : L2.St} {H : Hp} {D : Ends} {tz : TS} (k : te σ H fun v H1 => g v σ H1 (tz D)) : tSeq (tAsg te g) tz D σ H := k
theorem s_appX {K : PySem.W.Frag} {σ : L2.St} {H : Hp} {ta te : TE} {D : Ends} {l : Addr} {xs : List V} (hl : H l = some (.lst xs)) (ha : Ev ta σ H (.ref l)) (k : ∀ H1, Ex H H1 → te σ H1 fun v H2 => rAppend (.ref l) [v] H2 fun _ H3 => D.nx σ H3) : tDrop (tBM K "list" rAppend ta (tCons te tNil)) D σ H :=
  ha H (Ex.refl H) _ fun H1 e1 => ⟨Or.inl ⟨rfl, xs, sq_of (e1 l _ hl)⟩, k H1 e1⟩
theorem q_appX {K : PySem.W.Frag} {σ : L2.St} {H : Hp} {ta te : TE} {D : Ends} {tz : TS} {l : Addr} {xs : List V} (hl : H l = some (.lst xs)) (ha : Ev ta σ H (.ref l)) (k : ∀ H1, Ex H H1 → te σ H1 fun v H2 => rAppend (.ref l) [v] H2 fun _ H3 => tz D σ H3) : tSeq (tDrop (tBM K "list" rAppend ta (tCons te tNil))) tz D σ H := s_appX (D := { D with nx := tz D }) hl ha k
theorem te_if {t : TT} {ta tb : TE} {σ : L2.St} {H : Hp} {Q : VK} {b : Bool} (h : EvT t σ H b) (h1 : b = true → ∀ H1, Ex H H1 → ta σ H1 Q) (h2 : b = false → ∀ H1, Ex H H1 → tb σ H1 Q) : tIf t ta tb σ H Q := h H (Ex.refl H) _ fun H1 e1 => by
  cases b with
  | true => rw [if_pos rfl]; exact h1 rfl H1 e1
  | false => rw [if_neg Bool.false_ne_true]; exact h2 rfl H1 e1
theorem ea_star {K : PySem.W.Frag} {te : TE} {tr : TA} {σ : L2.St} {H : Hp} {p : Addr} {xs vs : List V} (h : Ev te σ H (.ref p)) (hp : SqT K H p xs) (hr : EvA tr σ H vs) : EvA (StX.tStar K te tr) σ H (xs ++ vs) := fun H1 e Q q =>
  h H1 e _ fun H2 e2 => ⟨p, xs, rfl, .inl (ex_t (e.trans e2) hp), hr H2 (e.trans e2) _ fun H3 e3 => q H3 (e2.trans e3)⟩
/-! ### arguments that make new places -/
section
variable {K : PySem.W.Frag} {σ : L2.St} {H : Hp} {te tl : TE} {tr : TA} {v : V} {xs : List V}
theorem ta_cons {Q : List V → Hp → Prop} (h : Ev te σ H v) (k : ∀ H1, Ex H H1 → tr σ H1 fun vs H2 => Q (v :: vs) H2) : tCons te tr σ H Q := h H (Ex.refl H) _ k
theorem ta_consX {Q : List V → Hp → Prop} (k : te σ H fun x H1 => tr σ H1 fun xs H2 => Q (x :: xs) H2) : tCons te tr σ H Q := k
theorem ta_all {ta : TA} {vs : List V} {Q : List V → Hp → Prop} (h : EvA ta σ H vs) (k : ∀ H1, Ex H H1 → Q vs H1) : ta σ H Q := h H (Ex.refl H) _ k
theorem te_call {sp : Sp} {dvs vs : List V} {E : XK} {ta : TA} {Q : VK} (h : EvA ta σ H vs) (k : ∀ H1, Ex H H1 → sp (vs ++ dvs) H1 Q E) : tCall sp dvs E ta σ H Q := h H (Ex.refl H) _ k
theorem s_retX {ta : TA} {D : Ends} (k : ta σ H fun xs H1 => xs.length ≤ sizeLine ∧ ∀ p, H1 p = none → D.rt (.ref p) (upd H1 p (.lst xs))) : tRet (tLst ta) D σ H := k
end

end Su
namespace Su
theorem eu_tupOfL {K : PySem.W.Frag} {te : TE} {σ : L2.St} {H : Hp} {xs : List V} (h : EvL te σ H xs) : EvU (tCB (fun xs H Q => ∃ p ys, xs = [V.ref p] ∧ ((SqL K H p ys ∧ ∀ l, H l = none → Q (.ref l) (upd H l (.tup ys))) ∨ (SqT K H p ys ∧ Q (.ref p) H))) (tCons te tNil)) σ H xs := fun H0 e Q q =>
  h H0 e _ fun p H1 hp e1 h1 => ⟨p, xs, rfl, .inl ⟨sq_of h1, fun l hl => q l _ (fresh_back e1 hl) (e1.trans (Ex.new hl)) upd_same⟩⟩

end Su
namespace Su
def spLaw (K : PySem.W.Frag) : Sp := fun vs H Q _ => ∃ (a : Addr) (ns : List Int), vs = [.ref a] ∧ SqL K H a (ns.map V.int) ∧ ns.length ≤ 63 ∧ ∀ H', Q (.bl true) H'
theorem at_strs {ws : List Str} {z : Int} (h0 : 0 ≤ z) (h : z < (ws.map V.str).length) : atI (ws.map V.str) z = some (.str (ws.getD z.toNat Str.empty)) := by
  rw [List.length_map] at h
  have hl : z.toNat < ws.length := by omega
  refine at_of (show z = ((z.toNat : Nat) : Int) by omega) ?_
  rw [List.getElem?_map, List.getElem?_eq_getElem hl, List.getD_eq_getElem?_getD, List.getElem?_eq_getElem hl]
  rfl
theorem getD_mem {ws : List Str} {z : Int} (h0 : 0 ≤ z) (h : z < (ws.map V.str).length) : ws.getD z.toNat Str.empty ∈ ws := by
  rw [List.length_map] at h
  have hl : z.toNat < ws.length := by omega
  rw [List.getD_eq_getElem?_getD, List.getElem?_eq_getElem hl]
  exact List.getElem_mem hl
theorem str_eq {i j : Str} : decide (V.str i = V.str j) = decide (i = j) := by
  by_cases h : i = j
  · rw [h, decide_eq_true rfl, decide_eq_true rfl]
  · rw [decide_eq_false h, decide_eq_false (fun z => h (V.str.inj z))]

end Su
namespace Su
theorem el_catR {ta tb : TE} {σ : L2.St} {H : Hp} {a : Addr} {xs ys : List V} (ha : Ev ta σ H (.ref a)) (hx : H a = some (.lst xs)) (hb : EvL tb σ H ys) (hz : xs.length + ys.length ≤ 100000) : EvL (tOp rCat ta tb) σ H (xs ++ ys) := fun H1 e Q q =>
  ha H1 e _ fun H2 e2 => hb H2 (e.trans e2) _ fun p2 H3 hp3 e3 h3 => ⟨a, p2, xs, ys, rfl, rfl, (e.trans e2).trans e3 _ _ hx, h3, sz_of hz, fun r hr => q r _ (fresh_back (e2.trans e3) hr) ((e2.trans e3).trans (Ex.new hr)) upd_same⟩

end Su
namespace Su
theorem ev_ixN {K : PySem.W.Frag} {te tb : TE} {σ : L2.St} {H : Hp} {xs : List V} {z : Int} {v : V} (h : EvL te σ H xs) (hb : Ev tb σ H (.int z)) (hz : atI xs z = some v) : Ev (tOp (rIxL K) te tb) σ H v := fun H1 e Q q =>
  h H1 e _ fun p H2 _ e2 h2 => hb H2 (e.trans e2) _ fun H3 e3 => rv_ixL (sq_of (e3 _ _ h2)) hz H3 (Ex.refl _) _ fun H4 e4 => q H4 ((e2.trans e3).trans e4)

end Su
namespace Su
/-! ### zip(a list, a text): over the library's zip of any two walks (WalksT.zipD2) -/
section
open Evl
def ItzS (K : PySem.W.Frag) (a : Addr) (z0 : Str) : It :=
  ⟨fun i H => ∃ (xs : List V) (x : V) (c : Nat), SqL K H a xs ∧ xs[i]? = some x ∧ z0.cps[i]? = some c,
    fun i H v H' => ∃ T x c, v = .ref T ∧ H T = none ∧ H' = upd H T (.tup [x, .str ⟨#[c]⟩]) ∧ (∀ xs, SqL K H a xs → xs[i]? = some x) ∧ z0.cps[i]? = some c,
    fun i H => ∃ xs : List V, SqL K H a xs ∧ i = xs.length ∧ xs.length = z0.cps.size⟩
/-- the five cells of such a zip at its turn -/
def ZipS (tk : Tok) (z0 : Str) (z TI TO i1 i2 a : Addr) (i : Nat) (h : Heap) : Prop :=
  IsZip h z TI TO .none ∧ IsTupOf2 h TI (.ref i1) (.ref i2) ∧ (∃ x y, IsTupOf2 h TO x y) ∧ h.IsListIter i1 a i ∧ h.IsStrIter i2 (strIterType z0) z0 tk i
abbrev zipCells (z TI TO i1 i2 : Addr) : List Addr := [z, TI, TO, i1, i2]
theorem wr_cells {z TI TO i1 i2 b : Addr} (n : b ∉ zipCells z TI TO i1 i2) : b ∉ [z, TO, i1, i2] := fun hm => n (by
  simp only [zipCells, List.mem_cons, List.not_mem_nil, or_false] at hm ⊢
  rcases hm with e | e | e | e <;> simp [e])
theorem turn_zipS {P : Program} {w : World} {K : PySem.W.Frag} {elts : List Expr} {kk : Nat} {tpos : Pos} {a z TI TO i1 i2 : Addr} {z0 : Str} {tk : Tok} (D : ZipSep2 z TI TO i1 i2 [i1, a] [i2]) (ne1 : a ≠ i1) (neT : a ≠ TO) (nei : a ≠ i2) (nez : a ≠ z) :
    Turn P w K (.Tuple elts kk tpos) (ItzS K a z0) (zipCells z TI TO i1 i2) z (ZipS tk z0 z TI TO i1 i2 a) := by
  have naw : a ∉ [z, TO, i1, i2] := by simp [nez, neT, ne1, nei]
  have live : ∀ i h, ZipS tk z0 z TI TO i1 i2 a i h → ∀ c ∈ zipCells z TI TO i1 i2, ∃ o : Obj, h.get? c = some o ∧ ∀ v, o.data ≠ .cell v := fun i h hs => by
    obtain ⟨s1, s2, ⟨_, _, s3⟩, ⟨_, s4, _, k4⟩, ⟨_, s5, _, k5⟩⟩ := hs
    simp only [zipCells, List.forall_mem_cons]
    exact ⟨⟨_, s1, nofun⟩, ⟨_, s2, nofun⟩, ⟨_, s3, nofun⟩, ⟨_, s4, fun v e => by rw [k4] at e; cases e⟩, ⟨_, s5, fun v e => by rw [k5] at e; cases e⟩, fun _ hc => nomatch hc⟩
  refine ⟨List.mem_cons_self, live, fun i h h' hs keep => ?_, ?_, ?_, fun A i s Q E hs q => wpAny_pyIter_zip hs.1 q⟩
  · have kp : ∀ c ∈ zipCells z TI TO i1 i2, ∀ o, h.get? c = some o → h'.get? c = some o := keep
    simp only [zipCells, List.forall_mem_cons] at kp
    obtain ⟨s1, s2, ⟨x, y, s3⟩, s4, ⟨o5, s5, r5⟩⟩ := hs
    exact ⟨kp.1 _ s1, kp.2.1 _ s2, ⟨x, y, kp.2.2.1 _ s3⟩, s4.at kp.2.2.2.1, ⟨o5, kp.2.2.2.2.1 _ s5, r5⟩⟩
  · rintro X rfl rfl rfl calm i pins s σ H E Iv free ⟨s1, s2, s3, s4, s5⟩ ⟨xs, x, c, hq, hx, hc⟩
    obtain ⟨vs, rel, isl, -⟩ := Iv.list hq
    obtain ⟨u, hu, rx⟩ := rel.get hx
    have W := WalksT.zipD2 D (Draws.list (prog := X.prog) (w := X.w) (A := X.A.in1) (Iv.ok.hd calm) i1 a ne1 vs.toArray) (Draws.text (prog := X.prog) (w := X.w) (A := X.A.in1) (Iv.ok.hd calm) i2 z0 tk)
    have b1 : i < vs.toArray.size := by have := (List.getElem?_eq_some_iff.mp hu).1; simpa using this
    have b2 : i < z0.cps.size := (Array.getElem?_eq_some_iff.mp hc).1
    refine W.item i s _ _ (Nat.lt_min.mpr ⟨b1, b2⟩) ⟨s1, s2, s3, ⟨s4, isl.isList⟩, s5⟩ fun T vals h1 tk1 hv newT isT mid kp1 => ?_
    obtain ⟨v1, v2, hv1, ⟨c', t2, hc', rfl⟩, rfl⟩ := hv
    rw [show (vs.toArray)[i]? = some u from by simpa using hu] at hv1
    rw [hc] at hc'
    cases hv1
    cases hc'
    refine ⟨_, rfl, W.go elts kk tpos i T _ _ _ mid fun h2 st2 kp2 => ?_⟩
    have apT := W.apart i T h1 mid
    obtain ⟨oT, gT, cT, nT, dT⟩ := isT
    have both : ∀ b o, b ∉ zipCells z TI TO i1 i2 → s.heap.get? b = some o → h2.get? b = some o := fun b o nb e => kp2 b o (wr_cells nb) (kp1 b o (wr_cells nb) e)
    refine ⟨.ref T, upd H T (.tup [x, .str ⟨#[c]⟩]), Iv.turnedNew both free newT ⟨by show 2 ≤ sizeLine; decide, [u, .str ⟨#[c]⟩ t2], .cons rx (.cons ⟨t2, rfl⟩ .nil), oT, kp2 T _ apT gT, cT, nT, dT⟩, rfl,
      ⟨T, x, c, rfl, Iv.hok.fresh newT, rfl, fun ys hy => Iv.list_inj hy hq ▸ hx, hc⟩, ⟨st2.1, st2.2.1, st2.2.2.1, st2.2.2.2.1.1, st2.2.2.2.2⟩, fun b hb => ?_⟩
    have bT : b ≠ T := by
      obtain ⟨o, ho, _⟩ := live i s.heap ⟨s1, s2, s3, s4, s5⟩ b hb
      exact Nat.ne_of_lt (Nat.lt_of_lt_of_le (Heap.lt_size ho) newT)
    exact (upd_ne bT).trans (free b hb).1
  · rintro X rfl rfl rfl calm i pins s σ H E Iv free ⟨s1, s2, s3, s4, s5⟩ ⟨xs, hq, rfl, hl⟩
    obtain ⟨vs, rel, isl, -⟩ := Iv.list hq
    have W := WalksT.zipD2 D (Draws.list (prog := X.prog) (w := X.w) (A := X.A.in1) (Iv.ok.hd calm) i1 a ne1 vs.toArray) (Draws.text (prog := X.prog) (w := X.w) (A := X.A.in1) (Iv.ok.hd calm) i2 z0 tk)
    have len := rel.length
    have hmin : min vs.toArray.size z0.cps.size = xs.length := by
      rw [← hl, List.size_toArray, ← len]
      exact Nat.min_self _
    have st : _ := (⟨s1, s2, s3, ⟨s4, isl.isList⟩, s5⟩ : IsZip s.heap z TI TO .none ∧ IsTupOf2 s.heap TI (.ref i1) (.ref i2) ∧ (∃ x y, IsTupOf2 s.heap TO x y) ∧ (s.heap.IsListIter i1 a xs.length ∧ s.heap.IsList a vs.toArray) ∧ s.heap.IsStrIter i2 (strIterType z0) z0 tk xs.length)
    exact W.done s _ _ (by rw [hmin]; exact st) fun h1 tk1 kp => ⟨rfl, Iv.turnedL (fun b o nb e => kp b o (wr_cells nb) e) free⟩
def iZipS (K : PySem.W.Frag) (ta : TA) : TI := fun σ H R => ta σ H fun vs H1 => ∃ a z0 xs, vs = [.ref a, .str z0] ∧ SqL K H1 a xs ∧ R (ItzS K a z0) H1
theorem pi_zipS {X : Cx} {e e2 : Expr} {ta : TA} {p pos tpos : Pos} {elts : List Expr} {kk : Nat} (hg : Gl X "zip") (hm : X.mg "zip" = none) (args : PA X [e, e2] ta)
    (plain : starEach [e, e2] X.env = (false, eval e X.env) :: starEach [e2] X.env := by rfl) (nostar : (backTo pos (starEach [e2] X.env)).any (·.1) = false := by rfl) : PI X (.Tuple elts kk tpos) (.Call (.Name "zip" p) [e, e2] [] pos) (iZipS X.K ta) where
  run pins s σ H R Iv want := by
    refine Call_ (ld_blt Iv hg hm PyProof.Rows.boot_zip (PyProof.Rows.callWith_type1 (thn (args.run pos pins s σ H _ Iv want) fun us s1 got => ?_) plain nostar))
    obtain ⟨_, H1, I1, vals, a, z0, xs, rfl, hq, r⟩ := got
    cases vals with
    | cons v1 vals =>
      cases vals with
      | cons v2 vals =>
        cases vals
        cases v1
        obtain ⟨tk, rfl⟩ := v2
        obtain ⟨vs, -, isl, -⟩ := I1.list hq
        generalize hn : s1.heap.objs.size = n
        have old : a < n := hn ▸ isl.lt
        have far : ∀ k : Nat, a ≠ n + k := fun k => Nat.ne_of_lt (Nat.lt_of_lt_of_le old (Nat.le_add_right n k))
        have two : ∀ j k : Nat, j ≠ k → n + j ≠ n + k := fun j k h e => h (Nat.add_left_cancel e)
        have new : ∀ k : Nat, FpOk X pins H1 (n + k) := fun k => I1.fpOk (hn ▸ Nat.le_add_right _ k) (I1.hok.fresh (hn ▸ Nat.le_add_right _ k))
        refine zip_begins2 (begins_list a vs.toArray) (begins_text z0 tk) isl.isList trivial fun h' gz gI gO g1 g2 _ kp => wpAny_pyIter_zip gz ?_
        rw [hn] at gz gI gO g1 g2
        have sep : ZipSep2 (n + 4) (n + 2) (n + 3) (n + 0) (n + 1) [n + 0, a] [n + 1] := by
          have one : ∀ {b c : Addr}, b ≠ c → b ∉ [c] := fun h hm => h (List.mem_singleton.mp hm)
          have pair : ∀ {b c d : Addr}, b ≠ c → b ≠ d → b ∉ [c, d] := fun h1 h2 hm => (List.mem_cons.mp hm).elim h1 fun hm => h2 (List.mem_singleton.mp hm)
          exact ⟨two 2 4 (by decide), two 3 4 (by decide), two 2 3 (by decide), two 2 0 (by decide), List.mem_cons_self, pair (two 4 0 (by decide)) (far 4).symm, pair (two 3 0 (by decide)) (far 3).symm, two 2 1 (by decide), List.mem_cons_self, one (two 4 1 (by decide)), one (two 3 1 (by decide)), one (two 0 1 (by decide)), pair (two 1 0 (by decide)) (far 1).symm⟩
        rw [hn]
        refine ⟨n + 4, zipCells (n + 4) (n + 2) (n + 3) (n + 0) (n + 1), _, _, H1, rfl, I1.kept (t' := s1.toks) kp, turn_zipS (tk := tk) sep (far 0) (far 3) (far 1) (far 4), ⟨gz, gI, ⟨_, _, gO⟩, ⟨_, g1, rfl, rfl⟩, ⟨_, g2, rfl, rfl⟩⟩, ?_, r⟩
        simp only [zipCells, List.forall_mem_cons]
        exact ⟨new 4, new 2, new 3, new 0, new 1, fun _ hc => nomatch hc⟩
end

end Su
namespace Su
/-! ### comprehensions over any walk without new objects; over a list or a tuple; over range with a step; two clauses -/
section
variable {K : PySem.W.Frag} {σ : L2.St} {H : Hp} {t : TT} {te : TE} {g : TG} {vs : List Nat}
theorem lcw {J : It} {n : Nat} {G : Hp → Prop} {Y : Nat → Hp → V → Hp → Prop} (w : Walk J n G Y) (X : Nat → V → Prop) (hY : ∀ i H x H', Y i H x H' → H' = H ∧ X i x) (f : Nat → Bool) (v : Nat → V) {H1 : Hp} {Q : VK} (hG : ∀ H', Ex H1 H' → G H') (hn : n ≤ 40000)
    (hs : ∀ i x, i < n → X i x → ∃ σ2, Tgt g x (wipe σ vs) σ2 H1 ∧ wipe σ2 vs = wipe σ vs ∧ EvT t σ2 H1 (f i) ∧ (f i = true → Ev te σ2 H1 (v i)))
    (q : ∀ D H', H1 D = none → Ex H1 H' → H' D = some (.lst (given n f v)) → Q (.ref D) H') :
    ∀ D, H1 D = none → ∃ W : Nat → Nat → Hp → Prop, (∃ m, W 0 m (upd H1 D (.lst []))) ∧ ∀ i m H, W i m H →
      (J.stop i H ∧ Q (.ref D) H) ∨ (J.go i H ∧ ∃ Nx : Hp → Prop, (∀ H', Nx H' → ∃ m', m' < m ∧ W (i + 1) m' H') ∧ ∀ x H', J.yld i H x H' → g x (wipe σ vs) H' fun σ2 H2 => wipe σ2 vs = wipe σ vs ∧ t σ2 H2 fun b H3 =>
        if b = true then te σ2 H3 fun y H4 => ∃ acc, H4 D = some (.lst acc) ∧ acc.length < sizeLine ∧ Nx (upd H4 D (.lst (acc ++ [y]))) else Nx H3) := fun D hD =>
  lc_it w (Qd := fun H' => Q (.ref D) H') (Cw H1 f v D) ⟨hD, Ex.new hD, upd_same⟩ (fun i H' _ p => hG _ p.2.1) (fun i x H2 H2' hi p y => by
    obtain ⟨rfl, hx⟩ := hY _ _ _ _ y
    obtain ⟨σ2, h1, h2, h3, h4⟩ := hs i x hi hx
    exact h1 _ p.2.1 _ ⟨h2, cw_turn2 p (by omega) p.2.1 h3 h4⟩) (fun H' p => q D H' p.1 p.2.1 p.2.2)
def iSeqA (K : PySem.W.Frag) (te : TE) : TI := fun σ H R => te σ H fun v H1 => ∃ a, v = .ref a ∧ (((∃ xs, SqL K H1 a xs) ∧ R (Itl K a) H1) ∨ ((∃ xs, SqT K H1 a xs) ∧ R (Itt K a) H1))
theorem pi_seqA {X : Cx} {tg l : Expr} {tl : TE} (seq : PE X l tl) : PI X tg l (iSeqA X.K tl) where
  run pins s σ H R Iv want := thn (seq.run pins s σ H _ Iv want) fun v s1 got => by
    obtain ⟨_, H1, I1, rel, a, rfl, r⟩ := got
    cases rel
    rcases r with ⟨⟨_, hq⟩, r⟩ | ⟨⟨_, hq⟩, r⟩
    · exact wpAny_pyIter_list ((I1.list hq).choose_spec.2.1).isList (pi_one (tk := s1.toks) I1 _ (turn_list a _) ⟨_, Heap.get?_push_size _ rfl, rfl, rfl⟩ r)
    · exact wpAny_pyIter_tuple (I1.tuple hq).choose_spec.2.1 (pi_one (tk := s1.toks) I1 _ (turn_tuple a _) ⟨_, Heap.get?_push_size _ rfl, rfl, rfl⟩ r)
theorem pi_seqAK {X : Cx} {K : PySem.W.Frag} {tg l : Expr} {tl : TE} (hl : PE X l tl) (h : X.K = K := by rfl) : PI X tg l (iSeqA K tl) := h ▸ pi_seqA hl
theorem pi_zipSK {X : Cx} {K : PySem.W.Frag} {e e2 : Expr} {ta : TA} {p pos tpos : Pos} {elts : List Expr} {kk : Nat} (hg : Gl X "zip") (hm : X.mg "zip" = none) (ha : PA X [e, e2] ta)
    (hs : starEach [e, e2] X.env = (false, eval e X.env) :: starEach [e2] X.env := by rfl) (hpl : (backTo pos (starEach [e2] X.env)).any (·.1) = false := by rfl) (h : X.K = K := by rfl) :
    PI X (.Tuple elts kk tpos) (.Call (.Name "zip" p) [e, e2] [] pos) (iZipS K ta) := h ▸ pi_zipS hg hm ha hs hpl
theorem cr_sumK {X : Cx} {K : PySem.W.Frag} (hc : X.calm = true) (h : X.K = K := by rfl) : CallR X (.builtin "sum") (rSum K) := h ▸ cr_sum hc
/-- [.. for x in a list or tuple] -/
theorem el_lcSq {tl : TE} {a : Addr} {xs : List V} (f : Nat → Bool) (v : Nat → V) (h : Ev tl σ H (.ref a)) (hx : SqL K H a xs ∨ SqT K H a xs) (hz : xs.length ≤ 40000)
    (hs : ∀ (i : Nat) (x : V) Hb, Ex H Hb → xs[i]? = some x → ∃ σ2, Tgt g x (wipe σ vs) σ2 Hb ∧ wipe σ2 vs = wipe σ vs ∧ EvT t σ2 Hb (f i) ∧ (f i = true → Ev te σ2 Hb (v i))) :
    EvL (tLc (iSeqA K tl) g t te vs) σ H (given xs.length f v) := fun H0 e Q q => h H0 e _ fun H1 e1 => ⟨a, rfl, by
  rcases hx with hx | hx
  · exact .inl ⟨⟨xs, ex_l (e.trans e1) hx⟩, lcw walk_list (fun i x => xs[i]? = some x) (fun _ _ _ _ y => y) f v (fun H' e' => ex_l ((e.trans e1).trans e') hx) hz (fun i x _ hi => hs i x H1 (e.trans e1) hi) fun D H' hD e' h' => q D H' (fresh_back e1 hD) (e1.trans e') h'⟩
  · exact .inr ⟨⟨xs, ex_t (e.trans e1) hx⟩, lcw walk_tup (fun i x => xs[i]? = some x) (fun _ _ _ _ y => y) f v (fun H' e' => ex_t ((e.trans e1).trans e') hx) hz (fun i x _ hi => hs i x H1 (e.trans e1) hi) fun D H' hD e' h' => q D H' (fresh_back e1 hD) (e1.trans e') h'⟩⟩
/-- .. over a list or tuple just made -/
theorem el_lcSqN {tl : TE} {xs : List V} (f : Nat → Bool) (v : Nat → V) (h : EvL tl σ H xs) (hz : xs.length ≤ 40000)
    (hs : ∀ (i : Nat) (x : V) Hb, Ex H Hb → xs[i]? = some x → ∃ σ2, Tgt g x (wipe σ vs) σ2 Hb ∧ wipe σ2 vs = wipe σ vs ∧ EvT t σ2 Hb (f i) ∧ (f i = true → Ev te σ2 Hb (v i))) :
    EvL (tLc (iSeqA K tl) g t te vs) σ H (given xs.length f v) := fun H0 e Q q => h H0 e _ fun a H1 ha e1 hx => ⟨a, rfl,
  .inl ⟨⟨xs, sq_of hx⟩, lcw walk_list (fun i x => xs[i]? = some x) (fun _ _ _ _ y => y) f v (fun H' e' => sq_of (e' _ _ hx)) hz (fun i x _ hi => hs i x H1 (e.trans e1) hi) fun D H' hD e' h' => q D H' (fresh_back e1 hD) (e1.trans e') h'⟩⟩
/-- [.. for c in a text] -/
theorem el_lcStr {tl : TE} {z : Str} (f : Nat → Bool) (v : Nat → V) (h : Ev tl σ H (.str z)) (hz : z.cps.size ≤ 40000)
    (hs : ∀ (i c : Nat) Hb, Ex H Hb → z.cps[i]? = some c → ∃ σ2, Tgt g (.str ⟨#[c]⟩) (wipe σ vs) σ2 Hb ∧ wipe σ2 vs = wipe σ vs ∧ EvT t σ2 Hb (f i) ∧ (f i = true → Ev te σ2 Hb (v i))) :
    EvL (tLc (iStr tl) g t te vs) σ H (given z.cps.size f v) := fun H0 e Q q => h H0 e _ fun H1 e1 => ⟨z, rfl,
  lcw walk_str (fun i x => ∃ c, z.cps[i]? = some c ∧ x = .str ⟨#[c]⟩) (fun _ _ _ _ y => y) f v (fun _ _ => trivial) hz (fun i x _ hi => by
    obtain ⟨c, hc, rfl⟩ := hi
    exact hs i c H1 (e.trans e1) hc) fun D H' hD e' h' => q D H' (fresh_back e1 hD) (e1.trans e') h'⟩
/-- [.. for a, b in zip(a list, a text)] -/
theorem el_lcZS {ta : TA} {a : Addr} {xs : List V} {z : Str} (f : Nat → Bool) (v : Nat → V) (h : EvA ta σ H [.ref a, .str z]) (hx : SqL K H a xs) (hl : xs.length = z.cps.size) (hz : xs.length ≤ 40000)
    (hs : ∀ (i : Nat) (x : V) (c : Nat) T Hb, Ex H Hb → xs[i]? = some x → z.cps[i]? = some c → Hb T = some (.tup [x, .str ⟨#[c]⟩]) → ∃ σ2, Tgt g (.ref T) (wipe σ vs) σ2 Hb ∧ wipe σ2 vs = wipe σ vs ∧ EvT t σ2 Hb (f i) ∧ (f i = true → Ev te σ2 Hb (v i))) :
    EvL (tLc (iZipS K ta) g t te vs) σ H (given xs.length f v) := fun H0 e Q q => h H0 e _ fun H1 e1 => ⟨a, z, xs, rfl, ex_l (e.trans e1) hx, fun Dl hD => by
  refine ⟨fun i m H' => m = xs.length - i ∧ i ≤ xs.length ∧ Cw H1 f v Dl i H', ⟨xs.length, by simp, Nat.zero_le _, hD, Ex.new hD, upd_same⟩, ?_⟩
  rintro i m H' ⟨rfl, hi, p⟩
  have hX := ex_l ((e.trans e1).trans p.2.1) hx
  by_cases hlt : i < xs.length
  · have hlt2 : i < z.cps.size := by omega
    refine .inr ⟨⟨xs, xs[i], z.cps[i], hX, List.getElem?_eq_getElem hlt, Array.getElem?_eq_getElem hlt2⟩, Cw H1 f v Dl (i + 1), fun H2 p' => ⟨xs.length - (i + 1), by omega, rfl, hlt, p'⟩, fun zz H2 hzz => ?_⟩
    obtain ⟨T, x, c, rfl, nT, rfl, hxx, hc⟩ := hzz
    have eT : Ex H' (upd H' T (.tup [x, .str ⟨#[c]⟩])) := Ex.new nT
    have hTD : T ≠ Dl := fun z => by rw [z, p.2.2] at nT; cases nT
    have p2 := cw_ex p eT
    obtain ⟨σ2, h1, h2, h3, h4⟩ := hs i x c T (dropAt (upd H' T (.tup [x, .str ⟨#[c]⟩])) Dl) (ex_drop (((e.trans e1).trans p.2.1).trans eT) (fresh_back (e.trans e1) p.1)) (hxx xs hX) hc (drop_of upd_same hTD)
    exact h1 _ drop_ex _ ⟨h2, cw_turn2 p2 (by omega) drop_ex h3 h4⟩
  · have ei : i = xs.length := by omega
    subst ei
    exact .inl ⟨⟨xs, hX, rfl, hl⟩, q Dl H' (fresh_back e1 p.1) (e1.trans p.2.1) p.2.2⟩⟩
theorem tg_cons {i : Nat} {x : V} {σ : L2.St} {H : Hp} : Tgt (gName i) x σ (σ.set i (some x)) H := tg_name
/-- a target of five names, for a tuple of five -/
theorem tg_5 {K : PySem.W.Frag} {T : Addr} {i1 i2 i3 i4 i5 : Nat} {x1 x2 x3 x4 x5 : V} {σ : L2.St} {H : Hp} (h : SqT K H T [x1, x2, x3, x4, x5]) :
    Tgt (gTup K 5 (gCons (gName i1) (gCons (gName i2) (gCons (gName i3) (gCons (gName i4) (gCons (gName i5) gNil)))))) (.ref T) σ (((((σ.set i1 (some x1)).set i2 (some x2)).set i3 (some x3)).set i4 (some x4)).set i5 (some x5)) H := fun H2 e Q q =>
  ⟨T, _, rfl, ex_t e h, rfl, x1, _, rfl, x2, _, rfl, x3, _, rfl, x4, _, rfl, x5, _, rfl, rfl, q⟩
/-- x, .. = an expression -/
theorem q_asgG {te : TE} {g : TG} {tz : TS} {D : Ends} {v : V} {σ σ2 : L2.St} {H : Hp} (h : Ev te σ H v) (hg : ∀ H1, Ex H H1 → Tgt g v σ σ2 H1) (k : ∀ H1, Ex H H1 → tz D σ2 H1) : tSeq (tAsg te g) tz D σ H :=
  h H (Ex.refl H) _ fun H1 e1 => hg H1 e1 H1 (Ex.refl _) _ (k H1 e1)
theorem q_asgGU {te : TE} {g : TG} {tz : TS} {D : Ends} {xs : List V} {σ σ2 : L2.St} {H : Hp} (h : EvU te σ H xs) (hg : ∀ p H1, Ex H H1 → H1 p = some (.tup xs) → Tgt g (.ref p) σ σ2 H1) (k : ∀ H1, Ex H H1 → tz D σ2 H1) : tSeq (tAsg te g) tz D σ H :=
  h H (Ex.refl H) _ fun p H1 _ e1 h1 => hg p H1 e1 h1 H1 (Ex.refl _) _ (k H1 e1)
end

end Su
namespace Su
/-! ### [x for row in rows for x in row], rows a tuple of tuples -/
theorem el_flat2 {K : PySem.W.Frag} {σ : L2.St} {H : Hp} {tl tl1 te : TE} {i1 i2 : Nat} {vs vs1 : List Nat} {a : Addr} {xs : List V} {rows : List (List V)} (h : Ev tl σ H (.ref a)) (hx : SqT K H a xs) (hl : xs.length = rows.length)
    (hr : ∀ (i : Nat) (x : V) (row : List V), xs[i]? = some x → rows[i]? = some row → ∃ b : Addr, x = V.ref b ∧ SqT K H b row) (hz : rows.flatten.length ≤ 40000)
    (hw : ∀ x, wipe ((wipe σ vs).set i1 (some x)) vs = wipe σ vs) (hw1 : ∀ x y, wipe ((wipe ((wipe σ vs).set i1 (some x)) vs1).set i2 (some y)) vs1 = wipe ((wipe σ vs).set i1 (some x)) vs1)
    (hi : ∀ x Hb, Ex H Hb → Ev tl1 ((wipe σ vs).set i1 (some x)) Hb x) (hs : ∀ x y Hb, Ex H Hb → Ev te ((wipe ((wipe σ vs).set i1 (some x)) vs1).set i2 (some y)) Hb y) :
    EvL (tLc2 (iSeqA K tl) (gName i1) tYes (iSeqA K tl1) (gName i2) tYes te vs vs1) σ H rows.flatten := fun H0 e0 Q q =>
  h H0 e0 _ fun H1 e1 => ⟨a, rfl, .inr ⟨⟨xs, ex_t (e0.trans e1) hx⟩, fun D hD => by
    refine ⟨fun i m H' => m = xs.length - i ∧ i ≤ xs.length ∧ Ex H1 H' ∧ H' D = some (.lst (rows.take i).flatten), ⟨xs.length, by simp, Nat.zero_le _, Ex.new hD, upd_same⟩, ?_⟩
    rintro i m H' ⟨rfl, hi', ex', p⟩
    have eH := (e0.trans e1).trans ex'
    have hX := ex_t eH hx
    by_cases hlt : i < xs.length
    · refine .inr ⟨⟨xs, xs[i], hX, List.getElem?_eq_getElem hlt⟩, fun H2 => Ex H1 H2 ∧ H2 D = some (.lst (rows.take (i + 1)).flatten), fun H2 p' => ⟨xs.length - (i + 1), by omega, rfl, hlt, p'⟩, fun x H2 hx2 => ?_⟩
      obtain ⟨rfl, hxx⟩ := hx2
      have gx := hxx xs hX
      have hri : i < rows.length := by omega
      obtain ⟨b, rfl, hb⟩ := hr i x rows[i] gx (List.getElem?_eq_getElem hri)
      refine ⟨hw _, ?_⟩
      unfold tYes
      dsimp only
      rw [if_pos rfl]
      refine hi _ _ eH _ (Ex.refl _) _ fun H3 e3 => ?_
      refine ⟨b, rfl, .inr ⟨⟨_, ex_t (eH.trans e3) hb⟩, fun j k H4 => k = (rows[i]).length - j ∧ j ≤ (rows[i]).length ∧ Ex H1 H4 ∧ H4 D = some (.lst ((rows.take i).flatten ++ (rows[i]).take j)), ⟨_, rfl, Nat.zero_le _, ex'.trans e3, by rw [List.take_zero, List.append_nil]; exact e3 _ _ p⟩, ?_⟩⟩
      rintro j k H4 ⟨rfl, hj, ex4, p4⟩
      have eH4 := (e0.trans e1).trans ex4
      have hY := ex_t eH4 hb
      by_cases hjt : j < (rows[i]).length
      · refine .inr ⟨⟨_, (rows[i])[j], hY, List.getElem?_eq_getElem hjt⟩, fun H5 => Ex H1 H5 ∧ H5 D = some (.lst ((rows.take i).flatten ++ (rows[i]).take (j + 1))), fun H5 p' => ⟨(rows[i]).length - (j + 1), by omega, rfl, hjt, p'⟩, fun y H5 hy => ?_⟩
        obtain ⟨rfl, hyy⟩ := hy
        have gy := hyy _ hY
        refine ⟨hw1 _ y, ?_⟩
        rw [if_pos rfl]
        refine hs _ y _ eH4 _ (Ex.refl _) _ fun H6 e6 => ?_
        have ht : ((rows.take i).flatten ++ (rows[i]).take j) ++ [y] = (rows.take i).flatten ++ (rows[i]).take (j + 1) := by rw [List.take_succ, gy, List.append_assoc]; rfl
        refine ⟨_, e6 _ _ p4, sz_lt ?_, Ex.mut (ex4.trans e6) hD, by rw [ht]; exact upd_same⟩
        have h1 : (rows.take (i + 1)).flatten.length ≤ rows.flatten.length := by
          conv => rhs; rw [← List.take_append_drop (i + 1) rows]
          rw [List.flatten_append, List.length_append]
          omega
        have h2 : (rows.take (i + 1)).flatten = (rows.take i).flatten ++ rows[i] := by
          rw [List.take_succ, List.getElem?_eq_getElem hri, List.flatten_append]
          simp
        rw [h2, List.length_append] at h1
        rw [List.length_append, List.length_take]
        omega
      · have ej : j = (rows[i]).length := by omega
        subst ej
        refine .inl ⟨⟨_, hY, Nat.le_refl _⟩, ex4, ?_⟩
        rw [p4, List.take_length, List.take_succ, List.getElem?_eq_getElem hri, List.flatten_append]
        simp
    · have ei : i = xs.length := by omega
      subst ei
      refine .inl ⟨⟨xs, hX, Nat.le_refl _⟩, q D H' (fresh_back e1 hD) (e1.trans ex') ?_⟩
      rw [p, hl, List.take_length]⟩⟩

end Su
namespace Su
/-! ### a dict of the module, with texts as keys, that is only read -/
def FitsD : List DictEntry → List (Str × V) → Prop
  | [], [] => True
  | e :: r, kv :: s => (∃ t, e.key = .str kv.1 t) ∧ RelV kv.2 e.val ∧ FitsD r s
  | _, _ => False
def ModD (K : PySem.W.Frag) (P : Params) (d : Addr) (kvs : List (Str × V)) : Prop :=
  (d == sysModules) = false ∧ ∃ es n, K.lookup d = some ⟨.type "dict", none, .dict es n, #[]⟩ ∧ PySem.W.KeysLit P es.toList ∧ FitsD es.toList kvs
theorem modd_mk {K : PySem.W.Frag} {P : Params} {d : Addr} {kvs : List (Str × V)} {es : Array DictEntry} {n : Nat} (l : K.lookup d = some ⟨.type "dict", none, .dict es n, #[]⟩) (k : PySem.W.KeysLit P es.toList) (f : FitsD es.toList kvs) (o : (d == sysModules) = false) : ModD K P d kvs := ⟨o, es, n, l, k, f⟩
def getD' (kvs : List (Str × V)) (z : Str) : Option V := (kvs.find? fun kv => kv.1 == z).map (·.2)
theorem fits_find {z : Str} : ∀ {es : List DictEntry} {kvs : List (Str × V)}, FitsD es kvs →
    (match es.find? (·.key.isStr z), getD' kvs z with
      | some e, some v => RelV v e.val
      | none, none => True
      | _, _ => False) ∧ es.any (·.refKey) = false
  | [], [], _ => ⟨trivial, rfl⟩
  | e :: r, kv :: s, h => by
    obtain ⟨⟨t, hk⟩, hv, hr⟩ := h
    have ih := fits_find (z := z) hr
    have hs : e.key.isStr z = (kv.1 == z) := by rw [hk]; rfl
    refine ⟨?_, ?_⟩
    · unfold getD'
      rw [List.find?_cons, List.find?_cons, hs]
      cases hb : (kv.1 == z) with
      | true => exact hv
      | false => exact ih.1
    · rw [List.any_cons, ih.2, Bool.or_false]
      unfold DictEntry.refKey
      rw [hk]
      try rfl
  | [], _ :: _, h => h.elim
  | _ :: _, [], h => h.elim
theorem ModD.nsIn {K : PySem.W.Frag} {P : Params} {d : Addr} {kvs : List (Str × V)} (D : ModD K P d kvs) (z : Str) :
    match getD' kvs z with
      | some v => ∃ u, PySem.W.nsIn K d z = some (some u) ∧ RelV v u
      | none => PySem.W.nsIn K d z = some none := by
  obtain ⟨_, es, n, hl, _, hf⟩ := D
  have h := fits_find (z := z) hf
  unfold PySem.W.nsIn
  rw [hl]
  dsimp only
  cases hg : getD' kvs z with
  | none =>
    have h1 := h.1
    rw [hg] at h1
    cases hfe : es.toList.find? (·.key.isStr z) with
    | none => dsimp only; rw [h.2]; rfl
    | some e => rw [hfe] at h1; exact h1.elim
  | some v =>
    have h1 := h.1
    rw [hg] at h1
    cases hfe : es.toList.find? (·.key.isStr z) with
    | none => rw [hfe] at h1; exact h1.elim
    | some e => rw [hfe] at h1; exact ⟨_, rfl, h1⟩
section
variable {X : Cx} {d : Addr} {kvs : List (Str × V)}
theorem ModD.kd {K : PySem.W.Frag} {w : World} (D : ModD K w.params d kvs) : ∃ es n, KDict K w d es n := by
  obtain ⟨h0, es, n, hl, hk, _⟩ := D
  exact ⟨es, n, hl, hk, h0⟩
def rInMd (d : Addr) (kvs : List (Str × V)) (neg : Bool) : R2 := fun x y H Q => ∃ z : Str, x = .str z ∧ y = .ref d ∧ Q (.bl (if neg then !(getD' kvs z).isSome else (getD' kvs z).isSome)) H
theorem op_in_md (D : ModD X.K X.w.params d kvs) : OpR X (compareOp .In) (rInMd d kvs false) := by
  obtain ⟨es, n, KD⟩ := D.kd
  intro pins s σ H x y v u Q I rx ry h
  obtain ⟨z, rfl, rfl, q⟩ := h
  have hn := D.nsIn z
  refine op_in_kd KD pins s σ H _ _ v u Q I rx ry ⟨z, ?_⟩
  cases hg : getD' kvs z with
  | none => rw [hg] at hn q; exact ⟨none, rfl, rfl, hn, q⟩
  | some v => rw [hg] at hn q; obtain ⟨u, hu, _⟩ := hn; exact ⟨some u, rfl, rfl, hu, q⟩
theorem op_notIn_md {K : PySem.W.Frag} (hK : X.K = K) (D : ModD K X.w.params d kvs) : OpR X (compareOp .NotIn) (rInMd d kvs true) := by
  subst hK
  obtain ⟨es, n, KD⟩ := D.kd
  intro pins s σ H x y v u Q I rx ry h
  obtain ⟨z, rfl, rfl, q⟩ := h
  have hn := D.nsIn z
  refine op_notIn_kd KD pins s σ H _ _ v u Q I rx ry ⟨z, ?_⟩
  cases hg : getD' kvs z with
  | none => rw [hg] at hn q; exact ⟨none, rfl, rfl, hn, q⟩
  | some v => rw [hg] at hn q; obtain ⟨u, hu, _⟩ := hn; exact ⟨some u, rfl, rfl, hu, q⟩
def rIxMd (d : Addr) (kvs : List (Str × V)) : R2 := fun x y H Q => ∃ z v, x = .ref d ∧ y = .str z ∧ getD' kvs z = some v ∧ Q v H
theorem ix_md {K : PySem.W.Frag} (hK : X.K = K) (D : ModD K X.w.params d kvs) : IxR X (rIxMd d kvs) := by
  subst hK
  have D' := D
  obtain ⟨_, es, n, hl, hk, _⟩ := D'
  intro value slice pins s σ H x y v u Q I rx ry h hs
  obtain ⟨z, r, rfl, rfl, hg, q⟩ := h
  have hn := D.nsIn z
  rw [hg] at hn
  obtain ⟨u0, hu, ru⟩ := hn
  exact ix_kdict value slice pins s σ H _ _ v u Q I rx ry ⟨d, z, r, rfl, rfl, ⟨es, n, u0, hl, hk, hu, ru⟩, q⟩ hs
theorem rv_niMd {H : Hp} {z : Str} : RV (rInMd d kvs true) (.str z) (.ref d) H (.bl (!(getD' kvs z).isSome)) := fun H1 _ _ q => ⟨z, rfl, rfl, q H1 (Ex.refl _)⟩
theorem rv_inMd {H : Hp} {z : Str} : RV (rInMd d kvs false) (.str z) (.ref d) H (.bl (getD' kvs z).isSome) := fun H1 _ _ q => ⟨z, rfl, rfl, q H1 (Ex.refl _)⟩
theorem rv_ixMd {H : Hp} {z : Str} {v : V} (h : getD' kvs z = some v) : RV (rIxMd d kvs) (.ref d) (.str z) H v := fun H1 _ _ q => ⟨z, v, rfl, rfl, h, q H1 (Ex.refl _)⟩
end

end Su
namespace Su
open TL
/-! ### numbers as texts -/
def numT (n : Int) : Str := Str.ofString (toString n)
theorem numT_tl {n : Int} (h0 : 0 ≤ n) : tl (numT n) = numL n.toNat := by
  have h := tl_num n.toNat
  rwa [Int.toNat_of_nonneg h0] at h
theorem numT_len {n : Int} (h0 : 0 ≤ n) (h : n < 10 ^ 12) : 1 ≤ (numT n).length ∧ (numT n).length ≤ 12 :=
  ⟨PySem.W.KLn.one_le h0, toString_length_le h0 (by decide) h⟩
theorem numL_digits (m : Nat) : ∀ c ∈ numL m, 48 ≤ c ∧ c ≤ 57 := fun c hc =>
  let ⟨_, hd, e⟩ := List.mem_map.mp hc
  e ▸ digit_range (Nat.isDigit_of_mem_toDigits (by decide) (by decide) hd)
theorem numL_head (m : Nat) : (numL m).head? = some 48 → m = 0 := by
  induction m using Nat.strongRecOn with
  | _ m ih =>
    by_cases h : m < 10
    · rw [numL_lt h]
      intro e
      have : 48 + m = 48 := Option.some.inj e
      omega
    · rw [numL_step (by omega), List.head?_append]
      intro e
      cases hn : (numL (m / 10)).head? with
      | none =>
        have := numL_digits (m / 10)
        have hne : numL (m / 10) ≠ [] := by
          unfold numL
          intro e2
          have h2 := PySem.toDigits_len_ge 10 (m / 10)
          rw [List.map_eq_nil_iff.mp e2] at h2
          exact absurd h2 (by decide)
        exact absurd (List.head?_eq_none_iff.mp hn) hne
      | some c =>
        rw [hn] at e
        have e2 : c = 48 := Option.some.inj e
        have := ih (m / 10) (by omega) (by rw [hn, e2])
        omega
theorem numT_zero : numT 0 = Str.ofString "0" := rfl
theorem numT_reads {n : Int} (h0 : 0 ≤ n) (h1 : n < 10 ^ 12) : PySem.intText? (numT n) = some n := by
  have hl := (numT_len h0 h1).2
  have ht := numT_tl h0
  have hd : PySem.NumText.AllDigits (numT n).cps.toList := by
    show PySem.NumText.AllDigits (tl (numT n))
    rw [ht]
    exact numL_digits _
  have hne : (numT n).cps.toList ≠ [] := by
    intro e
    have := (numT_len h0 h1).1
    have h2 : (numT n).cps.toList.length = (numT n).length := Array.length_toList
    rw [e] at h2
    change 0 = _ at h2
    omega
  have e := PySem.intText_digits hd hne (Nat.le_trans hl (by decide))
  rw [e, show (numT n).cps.toList = numL n.toNat from ht]
  have hv : PySem.NumText.digitsVal (numL n.toNat) = n.toNat := PySem.W.KIN.val_back n.toNat
  rw [hv]
  exact congrArg some (Int.toNat_of_nonneg h0)
theorem log_small {i : Int} (h0 : -(10 ^ 70) ≤ i) (h : i ≤ 10 ^ 70) : i.natAbs.log2 < 1920 := by
  by_cases hz : i.natAbs = 0
  · rw [hz]; decide
  · exact (Nat.log2_lt hz).mpr (Nat.lt_of_le_of_lt (show i.natAbs ≤ 10 ^ 70 by omega) (by decide))
def rStrA : List V → Hp → VK → Prop := fun xs H Q => (∃ i, xs = [V.int i] ∧ i.natAbs.log2 < 1920 ∧ Q (.str (numT i)) H) ∨ (∃ a, xs = [V.str a] ∧ Q (.str a) H)
theorem call_strA {X : Cx} : CallR X (.type "str") rStrA := by
  intro pins s σ H xs us Q I r h
  rcases h with ⟨i, rfl, hz, q⟩ | ⟨a, rfl, q⟩
  · exact call_str_int pins s σ H _ us Q I r ⟨i, rfl, hz, q⟩
  · exact SkE.call_str_str pins s σ H _ us Q I r ⟨a, rfl, q⟩
theorem rc_strI {H : Hp} {i : Int} (h0 : -(10 ^ 70) ≤ i) (h : i ≤ 10 ^ 70) : RC rStrA [.int i] H (.str (numT i)) := fun H1 _ _ q => .inl ⟨i, rfl, log_small h0 h, q H1 (Ex.refl _)⟩
theorem rc_strS {H : Hp} {a : Str} : RC rStrA [.str a] H (.str a) := fun H1 _ _ q => .inr ⟨a, rfl, q H1 (Ex.refl _)⟩
theorem rc_lenS {H : Hp} {z : Str} (h : z.length ≤ 100000) : RC (fun xs H Q => ∃ z, xs = [V.str z] ∧ z.length ≤ sizeLine ∧ Q (.int z.length) H) [.str z] H (.int z.length) := fun H1 _ _ q => ⟨z, rfl, sz_of h, q H1 (Ex.refl _)⟩
theorem rc_intS {H : Hp} {z : Str} {n : Int} (h : PySem.intText? z = some n) (hl : z.length ≤ 640) : RC (fun xs H Q => ∃ a n, xs = [V.str a] ∧ PySem.intText? a = some n ∧ a.length ≤ 640 ∧ Q (.int n) H) [.str z] H (.int n) := fun H1 _ _ q => ⟨z, n, rfl, h, hl, q H1 (Ex.refl _)⟩
theorem rv_inSign {H : Hp} {c : Nat} {z : Str} : RV (fun x y H Q => ∃ (c : Nat) (z : Str), x = .str ⟨#[c]⟩ ∧ y = .str z ∧ Q (.bl (decide (c ∈ z.cps.toList))) H) (.str ⟨#[c]⟩) (.str z) H (.bl (decide (c ∈ z.cps.toList))) := fun H1 _ _ q => ⟨c, z, rfl, rfl, q H1 (Ex.refl _)⟩
/-- text.split(sep) -/
theorem el_split {to te : TE} {σ : L2.St} {H : Hp} {a b : Str} {ws : List Str} (h1 : Ev to σ H (.str a)) (h2 : Ev te σ H (.str b)) (hb : (b.length == 0) = false) (hz : a.length ≤ 100000) (hs : Txt.split a b = ws) :
    EvL (tM1 (fun x xs H Q => ∃ a b, x = .str a ∧ xs = [.str b] ∧ (b.length == 0) = false ∧ a.length + 2 ≤ sizeLine ∧ rNewStrs (Txt.split a b) H Q) to te) σ H (ws.map V.str) := fun H1 e Q q =>
  h1 H1 e _ fun H2 e2 => ⟨⟨a, rfl⟩, h2 H2 (e.trans e2) _ fun H3 e3 => ⟨a, b, rfl, rfl, hb, Nat.le_trans (Nat.add_le_add_right hz 2) (by decide), fun p hp => by
    rw [hs]
    exact q p _ (fresh_back (e2.trans e3) hp) ((e2.trans e3).trans (Ex.new hp)) upd_same⟩⟩
theorem blank_all : (Str.ofString " ").cps.all (· < 256) = true := by decide +kernel
theorem split_blank {ws : List Str} (hne : ws ≠ []) (h : ∀ p ∈ ws, 32 ∉ tl p) : Txt.split (Txt.join (Str.ofString " ") ws) (Str.ofString " ") = ws :=
  TL.split_join (s := 32) (S := []) (by decide +kernel) blank_all hne h

end Su
namespace Su
open TL
/-! ### deeds: their words, their data -/
inductive DW where
  | nm (s : Str)
  | no (n : Int)
def DW.v : DW → V | .nm s => .str s | .no n => .int n
def DW.d : DW → PyData | .nm s => .str s | .no n => .int n
def DW.txt : DW → Str | .nm s => s | .no n => numT n
def DW.sign : DW → Nat | .nm _ => 110 | .no _ => 99
def NameL (s : Str) : Prop := 1 ≤ s.length ∧ s.length ≤ 12 ∧ ∀ c ∈ tl s, 97 ≤ c ∧ c < 123
def NumOk (n : Int) : Prop := 0 ≤ n ∧ n < 10 ^ 12
def DW.ok : DW → Prop | .nm s => NameL s | .no n => NumOk n
inductive Deed where
  | simp (w : Str) (ps : List DW)
  | found (c : Str) (stake : Int) (bid : Bool) (seats : List (Str × Int × Int))
abbrev foundS : Str := Str.ofString "found"
abbrev plainS : Str := Str.ofString "plain"
abbrev bidsS : Str := Str.ofString "bids"
def seatD (s : Str × Int × Int) : PyData := .tuple [.str s.1, .int s.2.1, .int s.2.2]
def seatV (s : Str × Int × Int) : List V := [.str s.1, .int s.2.1, .int s.2.2]
def seatP (s : Str × Int × Int) : List DW := [.nm s.1, .no s.2.1, .no s.2.2]
def deedD : Deed → PyData
  | .simp w ps => .tuple (.str w :: ps.map DW.d)
  | .found c s b seats => .tuple [.str foundS, .str c, .int s, .bool b, .tuple (seats.map seatD)]
def deedP : Deed → List DW
  | .simp w ps => .nm w :: ps
  | .found c s b seats => .nm foundS :: .nm c :: .no s :: .nm (if b then bidsS else plainS) :: (seats.map seatP).flatten
def wordsOf (d : Deed) : List Str := (deedP d).map DW.txt
def lineOf (d : Deed) : Str := Txt.join (Str.ofString " ") (wordsOf d)
def formsKv : List (Str × V) := [("enter", .str "n"), ("part", .str "n"), ("bring", .str "nc"), ("take", .str "nc"), ("pay", .str "nn"), ("bid", .str "nnc"), ("lay", .str "nnc"), ("swap", .str "nnn"), ("close", .str "n")]
def DeedOk : Deed → Prop
  | .simp w ps => (∃ form : Str, getD' formsKv w = some (.str form) ∧ tl form = ps.map DW.sign) ∧ ∀ p ∈ ps, p.ok
  | .found c s _ seats => NameL c ∧ NumOk s ∧ 1 ≤ seats.length ∧ seats.length ≤ 1000 ∧ ∀ q ∈ seats, NameL q.1 ∧ NumOk q.2.1 ∧ NumOk q.2.2
theorem DW.txt_len {p : DW} (h : p.ok) : 1 ≤ p.txt.length ∧ p.txt.length ≤ 12 := by
  cases p with
  | nm s => exact ⟨h.1, h.2.1⟩
  | no n => exact numT_len h.1 h.2
theorem DW.txt_noblank {p : DW} (h : p.ok) : 32 ∉ tl p.txt := by
  cases p with
  | nm s => exact fun hc => by have := h.2.2 32 hc; omega
  | no n =>
    show 32 ∉ tl (numT n)
    rw [numT_tl h.1]
    exact fun hc => by have := numL_digits _ 32 hc; omega
theorem dw_dp {K : PySem.W.Frag} {H : Hp} (p : DW) : Dp K H p.v p.d := by
  cases p with
  | nm s => exact .str s
  | no n => exact .int n
theorem dpa_dw {K : PySem.W.Frag} {H : Hp} (ps : List DW) : DpAll K H (ps.map DW.v) (ps.map DW.d) := dpa_of DW.v DW.d ps fun p _ => dw_dp p
theorem dw_of {K : PySem.W.Frag} {H : Hp} {x : V} (p : DW) (h : Dp K H x p.d) : x = p.v := by
  cases p with
  | nm s => cases h; rfl
  | no n => cases h; rfl
theorem dws_of {K : PySem.W.Frag} {H : Hp} : ∀ {xs : List V} (ps : List DW), DpAll K H xs (ps.map DW.d) → xs = ps.map DW.v
  | _, [], .nil => rfl
  | _, p :: ps, .cons h1 h2 => by rw [dw_of p h1, dws_of ps h2]; rfl
/-- the lengths of words of at most 12 signs -/
theorem sum_len {ws : List Str} {m : Nat} (h : ∀ w ∈ ws, w.length ≤ m) : (ws.map (·.length)).sum ≤ m * ws.length := by
  induction ws with
  | nil => exact Nat.zero_le _
  | cons a r ih =>
    have h1 := h a List.mem_cons_self
    have h2 := ih fun w hw => h w (List.mem_cons_of_mem _ hw)
    rw [List.map_cons, List.sum_cons, List.length_cons, Nat.mul_add, Nat.mul_one]
    omega
theorem joinL_len {m : Nat} (y : List Nat) (hy : y.length ≤ 1) : ∀ ws : List (List Nat), (∀ w ∈ ws, w.length ≤ m) → (joinL y ws).length ≤ (m + 1) * ws.length
  | [], _ => Nat.zero_le _
  | [a], h => by
    have := h a List.mem_cons_self
    show a.length ≤ (m + 1) * 1
    omega
  | a :: b :: r, h => by
    have h1 := h a List.mem_cons_self
    have ih := joinL_len y hy (b :: r) fun w hw => h w (List.mem_cons_of_mem _ hw)
    show (a ++ (y ++ joinL y (b :: r))).length ≤ _
    rw [List.length_append, List.length_append, List.length_cons, Nat.mul_add, Nat.mul_one]
    omega
theorem join_len {ws : List Str} {m : Nat} (h : ∀ w ∈ ws, w.length ≤ m) : (Txt.join (Str.ofString " ") ws).length ≤ (m + 1) * ws.length := by
  rw [len_tl, join_eq, tl_join]
  have := joinL_len (m := m) (tl (Str.ofString " ")) (by decide +kernel) (ws.map tl) (fun w hw => by
    obtain ⟨z, hz, rfl⟩ := List.mem_map.mp hw
    rw [← len_tl]
    exact h z hz)
  rw [List.length_map] at this
  exact this
theorem forms_word {w : Str} {v : V} (h : getD' formsKv w = some v) : w.length ≤ 12 ∧ 32 ∉ tl w ∧ w ≠ foundS ∧ ∃ f : Str, v = .str f ∧ (tl f).length ≤ 3 ∧ f.length ≤ 3 := by
  unfold getD' at h
  obtain ⟨kv, hk, rfl⟩ := Option.map_eq_some_iff.mp h
  have hm := List.mem_of_find?_eq_some hk
  have he := List.find?_some hk
  have hw : kv.1 = w := by simpa using he
  subst hw
  clear h hk he
  have hm : kv ∈ ([("enter", .str "n"), ("part", .str "n"), ("bring", .str "nc"), ("take", .str "nc"), ("pay", .str "nn"), ("bid", .str "nnc"), ("lay", .str "nnc"), ("swap", .str "nnn"), ("close", .str "n")] : List (Str × V)) := hm
  rw [List.mem_cons, List.mem_cons, List.mem_cons, List.mem_cons, List.mem_cons, List.mem_cons, List.mem_cons, List.mem_cons, List.mem_singleton] at hm
  rcases hm with rfl | rfl | rfl | rfl | rfl | rfl | rfl | rfl | rfl <;> exact ⟨by decide +kernel, by decide +kernel, by decide +kernel, _, rfl, by decide +kernel, by decide +kernel⟩
theorem deed_words {d : Deed} (h : DeedOk d) : (∀ w ∈ wordsOf d, w.length ≤ 12) ∧ (∀ w ∈ wordsOf d, 32 ∉ tl w) ∧ (wordsOf d).length ≤ 3004 ∧ wordsOf d ≠ [] := by
  unfold wordsOf
  cases d with
  | simp w ps =>
    obtain ⟨⟨form, hf, hs⟩, hp⟩ := h
    obtain ⟨h1, h2, _, f, e, h3, _⟩ := forms_word hf
    cases e
    rw [hs, List.length_map] at h3
    refine ⟨fun x hx => ?_, fun x hx => ?_, ?_, by simp [deedP]⟩
    · rcases List.mem_map.mp hx with ⟨p, hp', rfl⟩
      rcases List.mem_cons.mp hp' with rfl | hp'
      · exact h1
      · exact (DW.txt_len (hp p hp')).2
    · rcases List.mem_map.mp hx with ⟨p, hp', rfl⟩
      rcases List.mem_cons.mp hp' with rfl | hp'
      · exact h2
      · exact DW.txt_noblank (hp p hp')
    · rw [List.length_map]
      show ps.length + 1 ≤ 3004
      omega
  | found c s b seats =>
    obtain ⟨hc, hs, l1, l2, hq⟩ := h
    have key : ∀ p ∈ deedP (.found c s b seats), p.txt.length ≤ 12 ∧ 32 ∉ tl p.txt := fun p hp => by
      unfold deedP at hp
      rcases List.mem_cons.mp hp with rfl | hp
      · exact ⟨by decide +kernel, by decide +kernel⟩
      rcases List.mem_cons.mp hp with rfl | hp
      · exact ⟨hc.2.1, DW.txt_noblank (p := .nm c) hc⟩
      rcases List.mem_cons.mp hp with rfl | hp
      · exact ⟨(DW.txt_len (p := .no s) hs).2, DW.txt_noblank (p := .no s) hs⟩
      rcases List.mem_cons.mp hp with rfl | hp
      · cases b
        · exact ⟨by decide +kernel, by decide +kernel⟩
        · exact ⟨by decide +kernel, by decide +kernel⟩
      obtain ⟨l, hl, hpl⟩ := List.mem_flatten.mp hp
      obtain ⟨q, hqm, rfl⟩ := List.mem_map.mp hl
      obtain ⟨q1, q2, q3⟩ := hq q hqm
      unfold seatP at hpl
      simp only [List.mem_cons, List.not_mem_nil, or_false] at hpl
      rcases hpl with rfl | rfl | rfl
      · exact ⟨q1.2.1, DW.txt_noblank (p := .nm q.1) q1⟩
      · exact ⟨(DW.txt_len (p := .no q.2.1) q2).2, DW.txt_noblank (p := .no q.2.1) q2⟩
      · exact ⟨(DW.txt_len (p := .no q.2.2) q3).2, DW.txt_noblank (p := .no q.2.2) q3⟩
    refine ⟨fun x hx => ?_, fun x hx => ?_, ?_, by simp [deedP]⟩
    · obtain ⟨p, hp, rfl⟩ := List.mem_map.mp hx
      exact (key p hp).1
    · obtain ⟨p, hp, rfl⟩ := List.mem_map.mp hx
      exact (key p hp).2
    · rw [List.length_map]
      unfold deedP
      rw [List.length_cons, List.length_cons, List.length_cons, List.length_cons, List.length_flatten, List.map_map]
      have : (List.length ∘ seatP) = fun _ => 3 := rfl
      rw [this, List.map_const', List.sum_replicate_nat]
      omega
theorem line_len {d : Deed} (h : DeedOk d) : (lineOf d).length ≤ 40000 := by
  obtain ⟨h1, _, h3, _⟩ := deed_words h
  have := join_len h1
  unfold lineOf
  omega
theorem line_split {d : Deed} (h : DeedOk d) : Txt.split (lineOf d) (Str.ofString " ") = wordsOf d := split_blank (deed_words h).2.2.2 (deed_words h).2.1

end Su
namespace Su
open TL
/-! ### is_name -/
def isNameB (z : Str) : Bool := (decide (1 ≤ (z.length : Int)) && decide ((z.length : Int) ≤ 12)) && (tl z).all fun c => decide (c ∈ lettersS.cps.toList)
theorem letters_mem {c : Nat} : c ∈ lettersS.cps.toList ↔ 97 ≤ c ∧ c < 123 := by
  have e : lettersS.cps.toList = (List.range 26).map fun k => 97 + k := by decide +kernel
  rw [e, List.mem_map]
  constructor
  · rintro ⟨k, hk, rfl⟩
    have := List.mem_range.mp hk
    omega
  · rintro ⟨h1, h2⟩
    exact ⟨c - 97, List.mem_range.mpr (by omega), by omega⟩
theorem isName_iff {z : Str} : isNameB z = true ↔ NameL z := by
  unfold isNameB NameL
  rw [Bool.and_eq_true, Bool.and_eq_true, decide_eq_true_eq, decide_eq_true_eq, List.all_eq_true]
  constructor
  · rintro ⟨⟨h1, h2⟩, h3⟩
    exact ⟨by omega, by omega, fun c hc => letters_mem.mp (of_decide_eq_true (h3 c hc))⟩
  · rintro ⟨h1, h2, h3⟩
    exact ⟨⟨by omega, by omega⟩, fun c hc => decide_eq_true (letters_mem.mpr (h3 c hc))⟩
theorem given_all' {n : Nat} {v : Nat → V} : given n (fun _ => true) v = (List.range n).map v := by
  unfold given
  rw [List.filter_eq_self.mpr fun _ _ => rfl]
theorem signs_map {z : Str} (p : Nat → Bool) : (List.range z.cps.size).map (fun i => V.bl (p (z.cps.getD i 0))) = ((tl z).map p).map V.bl := by
  apply List.ext_getElem
  · rw [List.length_map, List.length_range, List.length_map, List.length_map]
    exact (show z.cps.size = z.length from rfl).trans (len_tl z)
  · intro i h1 h2
    rw [List.getElem_map, List.getElem_map, List.getElem_map, List.getElem_range]
    have hi : i < z.cps.size := by rw [List.length_map, List.length_range] at h1; exact h1
    congr 2
    rw [Array.getD_eq_getD_getElem?, Array.getElem?_eq_getElem hi]
    rfl
theorem ev_allB {K : PySem.W.Frag} {te : TE} {σ : L2.St} {H : Hp} {bs : List Bool} {b : Bool} (h : EvL te σ H (bs.map V.bl)) (hb : bs.all id = b) : Ev (tCB (rAll K) (tCons te tNil)) σ H (.bl b) := fun H1 e Q q =>
  h H1 e _ fun p H2 _ e2 h2 => ⟨p, bs, rfl, sq_of h2, by
    have e3 : bs.all (fun x => x) = b := hb
    first | (rw [e3]; exact q H2 e2) | (subst hb; exact q H2 e2)⟩
theorem ev_allSigns {K : PySem.W.Frag} {tl0 te : TE} {j : Nat} {σ : L2.St} {H : Hp} {z : Str} (p : Nat → Bool) (h : Ev tl0 σ H (.str z)) (hz : z.cps.size ≤ 40000) (hw : ∀ x, wipe ((wipe σ [j]).set j (some x)) [j] = wipe σ [j])
    (hs : ∀ c Hb, Ex H Hb → Ev te ((wipe σ [j]).set j (some (.str ⟨#[c]⟩))) Hb (.bl (p c))) : Ev (tCB (rAll K) (tCons (tLc (iStr tl0) (gName j) tYes te [j]) tNil)) σ H (.bl ((tl z).all p)) := by
  refine ev_allB (bs := (tl z).map p) ?_ (by rw [List.all_map]; rfl)
  rw [← signs_map, ← given_all']
  refine el_lcStr _ _ h hz fun i c Hb eb hc => ⟨_, tg_name, hw _, et_yes, fun _ => ?_⟩
  rw [show z.cps.getD i 0 = c from by rw [Array.getD_eq_getD_getElem?, hc]; rfl]
  exact hs c Hb eb
section
variable {P : Program} {w : World} {K : PySem.W.Frag} {mg : Str → Option Value} {base : Heap}
def spIsName : Sp := fun vs H Q _ => ∃ z : Str, vs = [.str z] ∧ z.length ≤ 40000 ∧ ∀ H', Ex H H' → Q (.bl (isNameB z)) H'
theorem spV_isName {z : Str} {H : Hp} (hz : z.length ≤ 40000) : SpV spIsName [.str z] H (.bl (isNameB z)) := fun H1 e Q q _ => ⟨z, rfl, hz, q⟩
theorem ok_is_name {f : Addr} {fd : FuncData} (F : Fun K "is_name" "is_name" s_is_name f fd) (T : Top K mg) : FnOk P w K mg base CX0 1 f fd ["text"] spIsName := by
  have nd := sc_is_name.nd
  refine F.ok sc_is_name (fun vs H Q E h => ?_) (fun cdv A outer s H vs Q E hr h => ?_)
  · obtain ⟨z, rfl, _⟩ := h
    rfl
  · obtain ⟨z, rfl, hz, q⟩ := h
    refine ⟨_, (pss_one (ps_ret (pe_and (pe_chain op_le op_le pe_int (pe_callB call_len_str (by rfl) T.m_len PySem.boot_len (pa_cons (pv 0) pa_nil)) (pe_glob (v := .int 12) (by rfl) T.m_LONGEST_NAME ⟨_, rfl⟩)) (pe_one (pe_callB (cr_all rfl) (by rfl) T.m_all (by decide +kernel) (pa_cons (pe_lc (own := [("sign", 1)]) (g := gName 1) (tt := tYes) rfl nd (pi_str (pv 0)) (blkOk_by (own := [("sign", 1)]) (N := Su.N_is_name) (sc := defScope s_is_name) (by decide +kernel)) (fun _ _ _ _ _ => (pg_name (i := 1) nd rfl (.inl rfl))) (fun _ _ _ _ _ => pts_nil) (fun _ _ _ _ _ => (pe_cmpR op_in_sign (pv 1) (pe_glob (v := .str "abcdefghijklmnopqrstuvwxyz") (by rfl) T.m_LETTERS ⟨_, rfl⟩) rfl))) pa_nil)))))), ?_⟩
    refine s_ret (ev_andV (chain_le' (a := 1) (b := z.length) (c := 12) ev_c (ev_cb (ea_cons (ev_var rfl) ea_nil) (rc_lenS (by omega))) ev_c) fun _ => ev_allSigns (fun c => decide (c ∈ lettersS.cps.toList)) (ev_var rfl) hz (fun _ => rfl) fun c Hb _ => ev_op (ev_var rfl) ev_c rv_inSign) q
end

end Su
namespace Su
open TL
/-! ### found_of, deed_of, where nothing is refused -/
theorem cut_mid (xs : List V) (i j : Nat) (h : i ≤ j) : cutV xs (some (i : Int)) (some (j : Int)) = (xs.drop i).take (j - i) := by
  unfold cutV
  rw [HT.sIx_nat, HT.sIx_nat]
  by_cases h1 : j ≤ xs.length
  · rw [Nat.min_eq_left h1, Nat.min_eq_left (by omega)]
  · by_cases h2 : i ≤ xs.length
    · rw [Nat.min_eq_right (by omega), Nat.min_eq_left h2, List.take_of_length_le (by rw [List.length_drop]; omega), List.take_of_length_le (by rw [List.length_drop]; omega)]
    · rw [Nat.min_eq_right (by omega), Nat.min_eq_right (by omega), List.drop_of_length_le (by omega), List.drop_of_length_le (by omega), List.take_nil, List.take_nil]
def TupsAt (H : Hp) (ts : List V) (rows : List (List V)) : Prop := ts.length = rows.length ∧ ∀ (i : Nat) (r : List V), rows[i]? = some r → ∃ a : Addr, ts[i]? = some (.ref a) ∧ H a = some (.tup r)
theorem TupsAt.ex {H H' : Hp} {ts : List V} {rows : List (List V)} (h : TupsAt H ts rows) (e : Ex H H') : TupsAt H' ts rows := ⟨h.1, fun i r hr => let ⟨a, h1, h2⟩ := h.2 i r hr; ⟨a, h1, e _ _ h2⟩⟩
theorem TupsAt.upd {H : Hp} {ts ys zs : List V} {rows : List (List V)} {D : Addr} (h : TupsAt H ts rows) (hD : H D = some (.lst ys)) : TupsAt (upd H D (.lst zs)) ts rows := ⟨h.1, fun i r hr => let ⟨a, h1, h2⟩ := h.2 i r hr; ⟨a, h1, by rw [upd_ne (fun z => by rw [z, hD] at h2; cases h2)]; exact h2⟩⟩
theorem TupsAt.snoc {H : Hp} {ts : List V} {rows : List (List V)} {p : Addr} {r : List V} (h : TupsAt H ts rows) (hp : H p = some (.tup r)) : TupsAt H (ts ++ [.ref p]) (rows ++ [r]) := by
  refine ⟨by rw [List.length_append, List.length_append, h.1]; rfl, fun i r' hr => ?_⟩
  by_cases hi : i < rows.length
  · rw [List.getElem?_append_left hi] at hr
    obtain ⟨a, h1, h2⟩ := h.2 i r' hr
    exact ⟨a, by rw [List.getElem?_append_left (by rw [h.1]; exact hi)]; exact h1, h2⟩
  · have hl := (List.getElem?_eq_some_iff.mp hr).1
    rw [List.length_append, List.length_singleton] at hl
    obtain rfl : i = rows.length := by omega
    rw [List.getElem?_append_right (Nat.le_refl _), Nat.sub_self] at hr
    obtain rfl := Option.some.inj hr
    exact ⟨p, by rw [← h.1, List.getElem?_append_right (Nat.le_refl _), Nat.sub_self]; rfl, hp⟩
theorem TupsAt.dpa {K : PySem.W.Frag} {H : Hp} : ∀ {ts : List V} {rows : List (List V)} {ds : List (List PyData)}, TupsAt H ts rows → rows.length = ds.length → (∀ (i : Nat) r d, rows[i]? = some r → ds[i]? = some d → DpAll K H r d) → DpAll K H ts (ds.map PyData.tuple)
  | [], rows, ds, h, hl, _ => by
    have h1 := h.1
    have : ds = [] := List.length_eq_zero_iff.mp (by rw [← hl, ← h1]; rfl)
    subst this
    exact .nil
  | t :: ts, [], _, h, _, _ => by have h1 := h.1; cases h1
  | t :: ts, r :: rows, [], _, hl, _ => by cases hl
  | t :: ts, r :: rows, d :: ds, h, hl, hd => by
    obtain ⟨a, h1, h2⟩ := h.2 0 r rfl
    obtain rfl : t = .ref a := Option.some.inj h1
    refine .cons (.tup (st_of h2) (hd 0 r d rfl rfl)) (TupsAt.dpa (rows := rows) ⟨Nat.succ.inj h.1, fun i r' hr => h.2 (i + 1) r' hr⟩ (Nat.succ.inj hl) fun i r' d' hr hd' => hd (i + 1) r' d' hr hd')
theorem lc_tups {σ : L2.St} {te : TE} {g : TG} {vs : List Nat} {J : It} {n : Nat} {G : Hp → Prop} {Y : Nat → Hp → V → Hp → Prop} (w : Walk J n G Y) (X : Nat → V → Prop) (hY : ∀ i H x H', Y i H x H' → H' = H ∧ X i x) (rows : Nat → List V) {H1 : Hp} {Q : VK} (hG : ∀ H', Ex H1 H' → G H') (hn : n ≤ 40000)
    (hs : ∀ i x Hb, Ex H1 Hb → i < n → X i x → ∃ σ2, Tgt g x (wipe σ vs) σ2 Hb ∧ wipe σ2 vs = wipe σ vs ∧ EvU te σ2 Hb (rows i))
    (q : ∀ D ts H', H1 D = none → Ex H1 H' → H' D = some (.lst ts) → TupsAt H' ts ((List.range n).map rows) → Q (.ref D) H') :
    ∀ D, H1 D = none → ∃ W : Nat → Nat → Hp → Prop, (∃ m, W 0 m (upd H1 D (.lst []))) ∧ ∀ i m H, W i m H →
      (J.stop i H ∧ Q (.ref D) H) ∨ (J.go i H ∧ ∃ Nx : Hp → Prop, (∀ H', Nx H' → ∃ m', m' < m ∧ W (i + 1) m' H') ∧ ∀ x H', J.yld i H x H' → g x (wipe σ vs) H' fun σ2 H2 => wipe σ2 vs = wipe σ vs ∧ tYes σ2 H2 fun b H3 =>
        if b = true then te σ2 H3 fun y H4 => ∃ acc, H4 D = some (.lst acc) ∧ acc.length < sizeLine ∧ Nx (upd H4 D (.lst (acc ++ [y]))) else Nx H3) := fun D hD =>
  lc_it w (Qd := fun H' => Q (.ref D) H') (fun i H' => Ex H1 H' ∧ ∃ ts, H' D = some (.lst ts) ∧ TupsAt H' ts ((List.range i).map rows)) ⟨Ex.new hD, [], upd_same, rfl, fun i r hr => nomatch hr⟩ (fun i H' _ p => hG _ p.1) (fun i x H2 H2' hi p y => by
    obtain ⟨rfl, hx⟩ := hY _ _ _ _ y
    obtain ⟨ex, ts, hts, hT⟩ := p
    obtain ⟨σ2, h1, h2, h3⟩ := hs i x _ ex hi hx
    refine h1 _ (Ex.refl _) _ ⟨h2, ?_⟩
    unfold tYes
    dsimp only
    rw [if_pos rfl]
    refine h3 _ (Ex.refl _) _ fun p H4 hp e4 h4 => ⟨ts, e4 _ _ hts, sz_lt (by have := hT.1; rw [List.length_map, List.length_range] at this; omega), Ex.mut (ex.trans e4) hD, _, upd_same, ?_⟩
    have hT4 := (hT.ex e4).snoc h4
    rw [List.range_succ, List.map_append]
    exact hT4.upd (e4 _ _ hts)) (fun H' p => by
    obtain ⟨ex, ts, hts, hT⟩ := p
    exact q D ts H' hD ex hts hT)
theorem fits_ok {z : Int} (h1 : -100000 ≤ z) (h2 : z ≤ 100000) : Builtin.Range.rangeFitsLong z = true := by
  unfold Builtin.Range.rangeFitsLong
  rw [decide_eq_true (show -(2 ^ 63) ≤ z by omega), decide_eq_true (show z < 2 ^ 63 by omega)]
  rfl
theorem rgc_step {m : Nat} (hm : m ≤ 1000) : RgC 4 ((4 + 3 * m : Nat) : Int) 3 m := by
  have hr : Builtin.Range.rangeSize 4 ((4 + 3 * m : Nat) : Int) 3 = m := by
    unfold Builtin.Range.rangeSize
    simp only [show (3 : Int) > 0 from by decide, if_true]
    split <;> omega
  refine ⟨by decide, by decide, ?_, hr⟩
  unfold Builtin.Range.small
  rw [hr, fits_ok (by omega) (by omega), fits_ok (by omega) (by omega), fits_ok (by omega) (by omega), fits_ok (by omega) (by omega), if_pos (by decide), fits_ok (by omega) (by omega), Bool.or_true]
  rfl
theorem eu_callL {sp : Sp} {dvs vs xs0 xs : List V} {E : XK} {te : TE} {tr : TA} {σ : L2.St} {H : Hp} (h1 : EvL te σ H xs0) (h2 : EvA tr σ H vs) (hs : ∀ p0 H1, Ex H H1 → H1 p0 = some (.lst xs0) → SpU sp (.ref p0 :: vs ++ dvs) H1 xs) : EvU (tCall sp dvs E (tCons te tr)) σ H xs := fun H0 e0 Q q =>
  h1 H0 e0 _ fun p0 H1 _ e1 hp0 => h2 H1 (e0.trans e1) _ fun H2 e2 => hs p0 H2 ((e0.trans e1).trans e2) (e2 _ _ hp0) H2 (Ex.refl H2) _ (fun p H3 hp e3 h3 => q p H3 (fresh_back (e1.trans e2) hp) ((e1.trans e2).trans e3) h3) E
theorem ea_starU {K : PySem.W.Frag} {te : TE} {σ : L2.St} {H : Hp} {xs : List V} (h : EvU te σ H xs) : EvA (StX.tStar K te tNil) σ H xs := fun H1 e Q q => by
  refine h H1 e _ fun p H2 _ e2 h2 => ⟨p, xs, rfl, .inl (st_of h2), ?_⟩
  show Q (xs ++ []) H2
  rw [List.append_nil]
  exact q H2 e2
def EvTs (te : TE) (σ : L2.St) (H : Hp) (rows : List (List V)) : Prop := ∀ H1, Ex H H1 → ∀ Q : VK, (∀ p ts H2, H1 p = none → Ex H1 H2 → H2 p = some (.lst ts) → TupsAt H2 ts rows → Q (.ref p) H2) → te σ H1 Q
theorem q_asgTs {te : TE} {σ : L2.St} {H : Hp} {rows : List (List V)} {i : Nat} {D : Ends} {tz : TS} (h : EvTs te σ H rows) (k : ∀ p ts H1, H p = none → Ex H H1 → H1 p = some (.lst ts) → TupsAt H1 ts rows → tz D (σ.set i (some (.ref p))) H1) : tSeq (tAsg te (gName i)) tz D σ H :=
  h H (Ex.refl H) _ k
theorem ets_R3 {ta : TA} {te : TE} {σ : L2.St} {H : Hp} {j : Nat} {vs : List Nat} {lo hi c : Int} {n : Nat} (rows : Nat → List V) (h : EvA ta σ H [.int lo, .int hi, .int c]) (hr : RgC lo hi c n) (hn : n ≤ 40000) (hw : ∀ x, wipe ((wipe σ vs).set j (some x)) vs = wipe σ vs)
    (hs : ∀ i Hb, Ex H Hb → i < n → EvU te ((wipe σ vs).set j (some (.int (lo + (i : Nat) * c)))) Hb (rows i)) :
    EvTs (tLc (iRng3 ta) (gName j) tYes te vs) σ H ((List.range n).map rows) := fun H0 e Q q => h H0 e _ fun H1 e1 => ⟨lo, hi, c, n, rfl, hr,
  lc_tups walk_rangeC (fun i x => x = .int (lo + (i : Nat) * c)) (fun _ _ _ _ y => y) rows (fun _ _ => trivial) hn (fun i x Hb eb hi hx => by
    subst hx
    exact ⟨_, tg_name, hw _, hs i Hb ((e.trans e1).trans eb) hi⟩) fun D ts H' hD e' h' hT => q D ts H' (fresh_back e1 hD) (e1.trans e') h' hT⟩
theorem range_map {α : Type} (l : List α) (f : α → List V) (d : α) : (List.range l.length).map (fun i => f (l.getD i d)) = l.map f := by
  apply List.ext_getElem
  · rw [List.length_map, List.length_range, List.length_map]
  · intro i h1 h2
    rw [List.length_map] at h2
    rw [List.getElem_map, List.getElem_map, List.getElem_range, List.getD_eq_getElem?_getD, List.getElem?_eq_getElem h2]
    rfl
theorem s_retCallA {sp : Sp} {dvs vs : List V} {E : XK} {ta : TA} {σ : L2.St} {H : Hp} {D : Ends} (h : EvA ta σ H vs) (k : ∀ H1, Ex H H1 → sp (vs ++ dvs) H1 (fun v H2 => D.rt v H2) E) : tRet (tCall sp dvs E ta) D σ H := h H (Ex.refl H) _ k
theorem s_retD {K : PySem.W.Frag} {te : TE} {σ : L2.St} {H : Hp} {d : PyData} {D : Ends} (h : EvD K te σ H d) (k : ∀ v H1, Ex H H1 → Dp K H1 v d → D.rt v H1) : tRet te D σ H := h H (Ex.refl H) _ k
theorem nth_word {ws : List Str} {i : Nat} {z : Str} (h : ws[i]? = some z) : atI (ws.map V.str) (i : Int) = some (.str z) := atI_nat (by rw [List.getElem?_map, h]; rfl)

end Su
namespace Su
open TL
/-! ### joined, deed_text -/
def DW.small : DW → Prop | .nm s => s.length ≤ 100 | .no n => (-(10 ^ 70) ≤ n ∧ n ≤ 10 ^ 70) ∧ (numT n).length ≤ 100
theorem DW.ok_small {p : DW} (h : p.ok) : p.small := by
  cases p with
  | nm s => exact Nat.le_trans h.2.1 (by decide)
  | no n => exact ⟨⟨by have := h.1; omega, by have := h.2; omega⟩, Nat.le_trans (numT_len h.1 h.2).2 (by decide)⟩
theorem DW.small_len {p : DW} (h : p.small) : p.txt.length ≤ 100 := by
  cases p with
  | nm s => exact h
  | no n => exact h.2
theorem rc_strP {H : Hp} {p : DW} (h : p.small) : RC rStrA [p.v] H (.str p.txt) := by
  cases p with
  | nm s => exact rc_strS
  | no n => exact rc_strI h.1.1 h.1.2
theorem range_mapV {α : Type} (l : List α) (f : α → V) (d : α) : (List.range l.length).map (fun i => f (l.getD i d)) = l.map f := by
  apply List.ext_getElem
  · rw [List.length_map, List.length_range, List.length_map]
  · intro i h1 h2
    rw [List.length_map] at h2
    rw [List.getElem_map, List.getElem_map, List.getElem_range, List.getD_eq_getElem?_getD, List.getElem?_eq_getElem h2]
    rfl
/-- [str(word) for word in ..] -/
theorem el_strs {K : PySem.W.Frag} {tl0 : TE} {j : Nat} {σ : L2.St} {H : Hp} {a : Addr} {ps : List DW} (h : Ev tl0 σ H (.ref a)) (hx : SqL K H a (ps.map DW.v) ∨ SqT K H a (ps.map DW.v)) (hz : ps.length ≤ 40000) (hw : ∀ x, wipe ((wipe σ [j]).set j (some x)) [j] = wipe σ [j])
    (hj : ∀ x, ((wipe σ [j]).set j (some x))[j]? = some (some x)) (hp : ∀ p ∈ ps, p.small) : EvL (tLc (iSeqA K tl0) (gName j) tYes (tCB rStrA (tCons (tVar j) tNil)) [j]) σ H ((ps.map DW.txt).map V.str) := by
  have hg : (ps.map DW.txt).map V.str = given (ps.map DW.v).length (fun _ => true) (fun i => .str (ps.getD i (.no 0)).txt) := by
    rw [given_all', List.length_map, List.map_map]
    exact (range_mapV ps (fun p => V.str p.txt) (.no 0)).symm
  rw [hg]
  refine el_lcSq _ _ h hx (by rw [List.length_map]; exact hz) fun i x Hb eb gx => ⟨_, tg_name, hw x, et_yes, fun _ => ?_⟩
  rw [List.getElem?_map] at gx
  obtain ⟨p, gp, rfl⟩ := Option.map_eq_some_iff.mp gx
  rw [List.getD_eq_getElem?_getD, gp]
  exact ev_cb (ea_cons (ev_var (hj _)) ea_nil) (rc_strP (hp p (List.mem_of_getElem? gp)))
theorem el_strsL {K : PySem.W.Frag} {tl0 : TE} {j : Nat} {σ : L2.St} {H : Hp} {ps : List DW} (h : EvL tl0 σ H (ps.map DW.v)) (hz : ps.length ≤ 40000) (hw : ∀ x, wipe ((wipe σ [j]).set j (some x)) [j] = wipe σ [j])
    (hj : ∀ x, ((wipe σ [j]).set j (some x))[j]? = some (some x)) (hp : ∀ p ∈ ps, p.small) : EvL (tLc (iSeqA K tl0) (gName j) tYes (tCB rStrA (tCons (tVar j) tNil)) [j]) σ H ((ps.map DW.txt).map V.str) := by
  have hg : (ps.map DW.txt).map V.str = given (ps.map DW.v).length (fun _ => true) (fun i => .str (ps.getD i (.no 0)).txt) := by
    rw [given_all', List.length_map, List.map_map]
    exact (range_mapV ps (fun p => V.str p.txt) (.no 0)).symm
  rw [hg]
  refine el_lcSqN _ _ h (by rw [List.length_map]; exact hz) fun i x Hb eb gx => ⟨_, tg_name, hw x, et_yes, fun _ => ?_⟩
  rw [List.getElem?_map] at gx
  obtain ⟨p, gp, rfl⟩ := Option.map_eq_some_iff.mp gx
  rw [List.getD_eq_getElem?_getD, gp]
  exact ev_cb (ea_cons (ev_var (hj _)) ea_nil) (rc_strP (hp p (List.mem_of_getElem? gp)))
theorem join_small {ps : List DW} (hp : ∀ p ∈ ps, p.small) (hl : ps.length ≤ 40000) : ((ps.map DW.txt).map (·.length)).sum + (ps.map DW.txt).length * (Str.ofString " ").length ≤ 16777216 := by
  have h1 := sum_len (ws := ps.map DW.txt) (m := 100) fun w hw => by
    obtain ⟨p, hp', rfl⟩ := List.mem_map.mp hw
    exact DW.small_len (hp p hp')
  rw [List.length_map] at h1
  rw [List.length_map, show (Str.ofString " ").length = 1 from by decide +kernel]
  omega
theorem s_retCallL1 {sp : Sp} {dvs xs0 : List V} {E : XK} {te : TE} {σ : L2.St} {H : Hp} {D : Ends} (h : EvL te σ H xs0) (k : ∀ p0 H1, H p0 = none → Ex H H1 → H1 p0 = some (.lst xs0) → sp ([.ref p0] ++ dvs) H1 (fun v H2 => D.rt v H2) E) : tRet (tCall sp dvs E (tCons te tNil)) D σ H := h H (Ex.refl H) _ k
section
variable {P : Program} {w : World} {K : PySem.W.Frag} {mg : Str → Option Value} {base : Heap}
def spJoined (K : PySem.W.Frag) : Sp := fun vs H Q _ => ∃ (a : Addr) (ps : List DW), vs = [.ref a] ∧ (SqL K H a (ps.map DW.v) ∨ SqT K H a (ps.map DW.v)) ∧ (∀ p ∈ ps, p.small) ∧ ps.length ≤ 40000 ∧ ∀ H', Ex H H' → Q (.str (Txt.join (Str.ofString " ") (ps.map DW.txt))) H'
theorem ok_joined {f : Addr} {fd : FuncData} (F : Fun K "joined" "joined" s_joined f fd) (T : Top K mg) : FnOk P w K mg base CX0 1 f fd ["words"] (spJoined K) := by
  have nd := sc_joined.nd
  refine F.ok sc_joined (fun vs H Q E h => ?_) (fun cdv A outer s H vs Q E hr h => ?_)
  · obtain ⟨a, ps, rfl, _⟩ := h
    rfl
  · obtain ⟨a, ps, rfl, hS, hp, hl, q⟩ := h
    refine ⟨_, (pss_one (ps_ret (pe_join pe_str (pe_lc (own := [("word", 1)]) (g := gName 1) (tt := tYes) rfl nd (pi_seqA (pv 0)) (blkOk_by (own := [("word", 1)]) (N := Su.N_joined) (sc := defScope s_joined) (by decide +kernel)) (fun _ _ _ _ _ => (pg_name (i := 1) nd rfl (.inl rfl))) (fun _ _ _ _ _ => pts_nil) (fun _ _ _ _ _ => (pe_callTy call_strA (by rfl) T.m_str (by decide +kernel) (pa_cons (pv 1) pa_nil))))))), ?_⟩
    exact s_ret (ev_join (ys := ps.map DW.txt) ev_c (el_strs (ev_var rfl) hS hl (fun _ => rfl) (fun _ => rfl) hp) (join_small hp hl)) q
theorem seats_flat {K : PySem.W.Frag} {H : Hp} : ∀ {ts : List V} {seats : List (Str × Int × Int)}, DpAll K H ts (seats.map seatD) → ts.length = seats.length ∧ ∀ (i : Nat) (x : V) (q : Str × Int × Int), ts[i]? = some x → seats[i]? = some q → ∃ b : Addr, x = .ref b ∧ SqT K H b (seatV q)
  | [], [], _ => ⟨rfl, fun i x q hx => nomatch hx⟩
  | [], _ :: _, h => nomatch h
  | _ :: _, [], h => nomatch h
  | t :: ts, q :: seats, .cons h1 h2 => by
    obtain ⟨hl, ih⟩ := seats_flat h2
    refine ⟨congrArg (· + 1) hl, fun i x q' hx hq => ?_⟩
    cases i with
    | zero =>
      obtain rfl := Option.some.inj hx
      obtain rfl := Option.some.inj hq
      unfold seatD at h1
      cases h1 with
      | tup ht hd =>
        cases hd with
        | cons a1 hd => cases a1; cases hd with
          | cons a2 hd => cases a2; cases hd with
            | cons a3 hd => cases a3; cases hd; exact ⟨_, rfl, ht⟩
    | succ i => exact ih i x q' hx hq
theorem flat_seats (seats : List (Str × Int × Int)) : (seats.map seatV).flatten = ((seats.map seatP).flatten).map DW.v := by
  rw [List.map_flatten, List.map_map]
  rfl
def spDeedText (K : PySem.W.Frag) : Sp := fun vs H Q _ => ∃ (v : V) (d : Deed), vs = [v] ∧ Dp K H v (deedD d) ∧ DeedOk d ∧ ∀ H', Ex H H' → Q (.str (lineOf d)) H'
theorem found_small {c : Str} {s : Int} {b : Bool} {seats : List (Str × Int × Int)} (h : DeedOk (.found c s b seats)) : (∀ p ∈ deedP (.found c s b seats), p.small) ∧ (deedP (.found c s b seats)).length ≤ 3004 := by
  have hw := deed_words h
  obtain ⟨hc, hs, l1, l2, hq⟩ := h
  refine ⟨fun p hp => ?_, by have := hw.2.2.1; unfold wordsOf at this; rw [List.length_map] at this; exact this⟩
  unfold deedP at hp
  rcases List.mem_cons.mp hp with rfl | hp
  · exact show foundS.length ≤ 100 by decide +kernel
  rcases List.mem_cons.mp hp with rfl | hp
  · exact DW.ok_small (p := .nm c) hc
  rcases List.mem_cons.mp hp with rfl | hp
  · exact DW.ok_small (p := .no s) hs
  rcases List.mem_cons.mp hp with rfl | hp
  · cases b
    · exact show plainS.length ≤ 100 by decide +kernel
    · exact show bidsS.length ≤ 100 by decide +kernel
  obtain ⟨l, hl, hpl⟩ := List.mem_flatten.mp hp
  obtain ⟨q, hqm, rfl⟩ := List.mem_map.mp hl
  obtain ⟨q1, q2, q3⟩ := hq q hqm
  unfold seatP at hpl
  rcases List.mem_cons.mp hpl with rfl | hpl
  · exact DW.ok_small (p := .nm q.1) q1
  rcases List.mem_cons.mp hpl with rfl | hpl
  · exact DW.ok_small (p := .no q.2.1) q2
  · obtain rfl := List.mem_singleton.mp hpl
    exact DW.ok_small (p := .no q.2.2) q3
theorem simp_small {wd : Str} {ps : List DW} (h : DeedOk (.simp wd ps)) : (∀ p ∈ deedP (.simp wd ps), p.small) ∧ (deedP (.simp wd ps)).length ≤ 3004 := by
  have hw := deed_words h
  obtain ⟨⟨form, hf, hs⟩, hp⟩ := h
  refine ⟨fun p hp' => ?_, by have := hw.2.2.1; unfold wordsOf at this; rw [List.length_map] at this; exact this⟩
  rcases List.mem_cons.mp hp' with rfl | hp'
  · exact Nat.le_trans (forms_word hf).1 (by decide)
  · exact DW.ok_small (hp p hp')
theorem dp_simp {H : Hp} {v : V} {wd : Str} {ps : List DW} (h : Dp K H v (deedD (.simp wd ps))) : ∃ a : Addr, v = .ref a ∧ SqT K H a ((deedP (.simp wd ps)).map DW.v) := by
  unfold deedD at h
  cases h with
  | tup ht hd =>
    cases hd with
    | cons a1 hd =>
      cases a1
      rw [dws_of ps hd] at ht
      exact ⟨_, rfl, ht⟩
theorem dp_found {H : Hp} {v : V} {c : Str} {s : Int} {b : Bool} {seats : List (Str × Int × Int)} (h : Dp K H v (deedD (.found c s b seats))) : ∃ (a q : Addr) (ts : List V), v = .ref a ∧ SqT K H a [.str foundS, .str c, .int s, .bl b, .ref q] ∧ SqT K H q ts ∧ DpAll K H ts (seats.map seatD) := by
  unfold deedD at h
  cases h with
  | tup ht hd =>
    cases hd with
    | cons a1 hd => cases a1; cases hd with
      | cons a2 hd => cases a2; cases hd with
        | cons a3 hd => cases a3; cases hd with
          | cons a4 hd => cases a4; cases hd with
            | cons a5 hd =>
              cases a5 with
              | tup hq hqd => cases hd; exact ⟨_, _, _, rfl, ht, hq, hqd⟩
-- CUT
theorem ok_deed_text {f : Addr} {fd : FuncData} (F : Fun K "deed_text" "deed_text" s_deed_text f fd) (T : Top K mg) : FnOk P w K mg base CX0 2 f fd ["deed"] (spDeedText K) := by
  have nd := sc_deed_text.nd
  have G_joined : FnOk P w K mg base CX0 1 T.f_joined T.fd_joined ["words"] (spJoined K) := ok_joined T.F_joined T
  refine F.ok sc_deed_text (fun vs H Q E h => ?_) (fun cdv A outer s H vs Q E hr h => ?_)
  · obtain ⟨v, d, rfl, _⟩ := h
    rfl
  · obtain ⟨v, d, rfl, hd, hok, q⟩ := h
    refine ⟨_, (pss_cons (ps_if (pt_cmpR op_ne (pe_ix ix_tup (pv 0) pe_int (fun _ _ => rfl)) (pe_glob (v := .str "found") (by rfl) T.m_FOUND ⟨_, rfl⟩) (nomark _))
        (pss_one (ps_ret (pe_call G_joined (hr.mono (by omega)) (by rfl) T.m_joined T.F_joined.kp T.b_joined .nil pass0 (pa_cons (pv 0) pa_nil))))
        pss_nil)
      (pss_cons (ps_asg (pv 0) (pg_tup rfl (pgs_cons (pg_name (i := 1) nd rfl (.inl rfl)) (pgs_cons (pg_name (i := 2) nd rfl (.inl rfl)) (pgs_cons (pg_name (i := 3) nd rfl (.inl rfl)) (pgs_cons (pg_name (i := 4) nd rfl (.inl rfl)) (pgs_cons (pg_name (i := 5) nd rfl (.inl rfl)) pgs_nil)))))))
      (pss_cons (ps_set (i := 6) nd rfl (.inl rfl) (pe_lst (pa_cons (pv 1) (pa_cons (pv 2) (pa_cons (pv 3) (pa_cons (pe_ifExp (pt_val (pv 4)) (pe_glob (v := .str "bids") (by rfl) T.m_BIDS ⟨_, rfl⟩) (pe_glob (v := .str "plain") (by rfl) T.m_PLAIN ⟨_, rfl⟩)) pa_nil))))))
      (pss_one (ps_ret (pe_call G_joined (hr.mono (by omega)) (by rfl) T.m_joined T.F_joined.kp T.b_joined .nil pass0 (pa_cons (pe_op op_cat (pv 6) (pe_lc2 (own := [("seat", 7), ("word", 8)]) (vs1 := [8]) (g := gName 7) (tt := tYes) (g1 := gName 8) (tt1 := tYes) rfl nd (pi_seqA (pv 5)) (blkOk_by (own := [("seat", 7), ("word", 8)]) (N := Su.N_deed_text) (sc := defScope s_deed_text) (by decide +kernel)) (by decide) (fun _ _ _ _ _ => (pg_name (i := 7) nd rfl (.inl rfl))) (fun _ _ _ _ _ => pts_nil) (fun _ _ _ _ _ => (pi_seqAK (K := K) (pv 7))) (fun _ _ _ _ _ => (pg_name (i := 8) nd rfl (.inl rfl))) (fun _ _ _ _ _ => pts_nil) (fun _ _ _ _ _ => (pv 8)))) pa_nil))))))), ?_⟩
    cases d with
    | simp wd ps =>
      obtain ⟨a, rfl, hS⟩ := dp_simp hd
      obtain ⟨⟨form, hf, _⟩, _⟩ := id hok
      have h0 : atI ((deedP (.simp wd ps)).map DW.v) 0 = some (.str wd) := atI_nat (j := 0) rfl
      refine q_when (b := true) (et_is (et_test (ev_op (ev_op (ev_var rfl) ev_c (rv_ixT hS h0)) ev_c (rv_ne rfl))) (by rw [str_eq, decide_eq_false (forms_word hf).2.2.1]; rfl)) (fun _ H1 e1 => ?_) (fun hb => by cases hb)
      have hsm := simp_small hok
      exact s_retCallA (ea_cons (ev_var rfl) ea_nil) fun H2 e2 => ⟨a, deedP (.simp wd ps), rfl, .inr (ex_t (e1.trans e2) hS), hsm.1, by have := hsm.2; omega, fun H3 e3 => q H3 ((e1.trans e2).trans e3)⟩
    | found c st b seats =>
      obtain ⟨a, qa, ts, rfl, hS, hq, hqd⟩ := dp_found hd
      refine q_when (b := false) (et_is (et_test (ev_op (ev_op (ev_var rfl) ev_c (rv_ixT hS (atI_nat (j := 0) rfl))) ev_c (rv_ne rfl))) (by rw [decide_eq_true rfl]; rfl)) (fun hb => by cases hb) fun _ H1 e1 => ?_
      refine q_asgG (ev_var rfl) (fun H2 e2 => tg_5 (ex_t (e1.trans e2) hS)) fun H2 e2 => ?_
      have e12 := e1.trans e2
      show tSeq _ _ _ [some (.ref a), some (.str foundS), some (.str c), some (.int st), some (.bl b), some (.ref qa), none, none, none] H2
      refine q_asgL (el_lst (vs := [.str foundS, .str c, .int st, .str (if b then bidsS else plainS)]) (ea_cons (ev_var rfl) (ea_cons (ev_var rfl) (ea_cons (ev_var rfl) (ea_cons (ev_if (b := b) (et_B (ev_var rfl)) (fun h => ?_) (fun h => ?_)) ea_nil)))) (by show 4 ≤ 100000; decide)) fun p H3 hp e3 h3 => ?_
      · rw [h]; exact ev_c
      · rw [h]; exact ev_c
      have hfl := seats_flat (dpa_ex (e12.trans e3) hqd)
      have hsm := found_small hok
      have hlen : (seats.map seatV).flatten.length ≤ 3000 := by
        rw [flat_seats, List.length_map]
        have := hsm.2
        unfold deedP at this
        simp only [List.length_cons] at this
        omega
      refine s_retCallL1 (el_catR (ev_var rfl) h3 (el_flat2 (K := K) (rows := seats.map seatV) (ev_var rfl) (ex_t (e12.trans e3) hq) (by rw [hfl.1, List.length_map]) (fun i x row hx hr => ?_) (by omega) ?_ ?_ ?_ ?_) (by show 4 + (seats.map seatV).flatten.length ≤ 100000; omega)) fun p0 H4 hp0 e4 h4 => ⟨p0, deedP (.found c st b seats), rfl, .inl (sq_of ?_), hsm.1, by have := hsm.2; omega, fun H5 e5 => q H5 (((e12.trans e3).trans e4).trans e5)⟩
      · rw [List.getElem?_map] at hr
        obtain ⟨q', hq', rfl⟩ := Option.map_eq_some_iff.mp hr
        exact hfl.2 i x q' hx hq'
      · exact fun _ => rfl
      · exact fun _ _ => rfl
      · exact fun x Hb _ => ev_var rfl
      · exact fun x y Hb _ => ev_var rfl
      · rw [flat_seats] at h4
        exact h4
end

end Su
namespace Su
/-! ### own exceptions: X(), except .. as e, isinstance(e, ..) -/
section
variable {X : Cx} {C : Addr} {bmB : List Value} {B newId initId : String}
theorem pmk_own0 {x : Str} {p pos : Pos} (F : ExcBaseFacts B newId initId bmB) (q : PySem.W.excIn X.K C bmB newId = true) (gC : X.mg x = some (.ref C)) (kC : PySem.W.keepIn X.K (.ref C) = true) (r : Raises X (.ref C)) (hg : Gl X x)
    (hdb : (x == ("__debug__" : Str)) = false := by decide) : PMk X (.Call (.Name x p) [] [] pos) (fun _ H Q => Q (.ref C) none H) := by
  intro pins s σ H Q I h
  refine wpAny_Call_Name_kw (ld_glob I hg gC ?_ hdb)
  refine PySem.W.callWith_K0 I.kIn kC ?_
  obtain ⟨bm, N, nm, qn, bs, hdct, sn, sub, ab, col, dd, k0, k1, k2, k3, k5, mN, hC, hN, hni, T⟩ := exc_obj I.kIn q
  refine wpAny_call_exc_subT F T hC hN hni (fun h' e hm => ?_) (Nat.zero_le _)
  exact mk_of I hm r h (I.hok.gone hm.new)
theorem pss_ex {ι : Type} {Pi : ι → Prop} {st : List Stmt} {t : ι → TS} (h : ∀ i, Pi i → PSs X st (t i)) : PSs X st (fun D σ H => ∃ i, Pi i ∧ t i D σ H) := ⟨fun pins s σ H D I ⟨i, hp, ht⟩ => (h i hp).run pins s σ H D I ht⟩
end
theorem rc_isE {K : PySem.W.Frag} {D a C : Addr} {H : Hp} {b : Bool} (h : PySem.W.kitOne K (.ref D) (.ref C) = some b) : RC (rIsE K D a) [.ref a, .ref C] H (.bl b) := fun H1 _ _ q => ⟨.ref C, .ref C, b, rfl, fun _ r => r, h, q H1 (Ex.refl H1)⟩
theorem rc_isEt {K : PySem.W.Frag} {D a : Addr} {n : String} {H : Hp} {b : Bool} (h : PySem.W.kitOne K (.ref D) (.type n) = some b) : RC (rIsE K D a) [.ref a, .ty n] H (.bl b) := fun H1 _ _ q => ⟨.ty n, .type n, b, rfl, fun _ r => r, h, q H1 (Ex.refl H1)⟩
def boolD (bs : List Bool) : PyData := .list (bs.map .bool)
theorem dp_bools {K : PySem.W.Frag} {H : Hp} {l : Addr} {bs : List Bool} (hl : SqL K H l (bs.map V.bl)) : Dp K H (.ref l) (boolD bs) := .lst hl (dpa_of V.bl PyData.bool bs fun i _ => .bl i)
theorem rv_eqDD {K : PySem.W.Frag} {H : Hp} {x y : V} {d e : PyData} {b : Bool} (h1 : Dp K H x d) (h2 : Dp K H y e) (hs : SeqAt.shaped d = true) (hs2 : SeqAt.shaped e = true) (hb : PyData.eqv d e = b) : RV (rEqD K) x y H (.bl b) := fun H1 ex Q q =>
  ⟨d, e, dp_ex ex h1, dp_ex ex h2, hs, hs2, by rw [hb]; exact q H1 (Ex.refl H1)⟩
theorem rv_neDD {K : PySem.W.Frag} {H : Hp} {x y : V} {d e : PyData} {b : Bool} (h1 : Dp K H x d) (h2 : Dp K H y e) (hs : SeqAt.shaped d = true) (hs2 : SeqAt.shaped e = true) (hb : PyData.eqv d e = !b) : RV (rNeD K) x y H (.bl b) := fun H1 ex Q q =>
  ⟨d, e, dp_ex ex h1, dp_ex ex h2, hs, hs2, by rw [hb, Bool.not_not]; exact q H1 (Ex.refl H1)⟩

end Su
namespace Su
/-! ### an exception leaves a list comprehension -/
theorem note_by_frame {u : Value} {env env' : Env} (h : env'.frame = env.frame) : noteFrame u env' = noteFrame u env := by
  unfold noteFrame PySem.frameOf
  rw [h]
/-- what the block's code is to reach: as compPost, but that the block's frame is known where an error leaves it -/
def postX (M : Model) (A : Around) (E : Value → Shared → Prop) (use : Option (Value → Sem Unit)) (Q : Value → Shared → Prop) (acc : Value) (fr : Option Addr) (C : Addr) : Result → Shared → Prop
  | .ok f, s' => compPost M A E use Q acc C (.ok f) s'
  | .error x, s' => ∃ m, s'.heap.Ns C m ∧ ∀ h', Heap.SameBut C s'.heap h' → ∀ cv : Env, cv.frame = fr → wpAny M A (passOn "comprehension.variables-let-go" x cv : Sem Value) (fun _ _ => False) E { s' with heap := h' }
section
variable {M : Model} {A : Around} {E : Value → Shared → Prop} {s : Shared} {env : Env}
theorem comp_freeX {e : Expr} {scope : Scope} {pos : Pos} {mk first : Sem Value} {g : Comprehension} {gs : List Comprehension} {cl : List (Str × Addr)} {use : Option (Value → Sem Unit)} {Q : Value → Shared → Prop}
    (hcl : clausesOf e = g :: gs) (hs : ∀ x, foldedSetIterable g.iter env x = pure x) (hclos : closureFor scope env = pure cl) (hk : scope.kind = .function) (hn : ∀ x ∈ scope.names, x.2 = .local → scope.names.lookup x.1 = some .local)
    (h : wpAny M A first (fun x s1 => wpAny M A (pyIter x) (fun it s2 => wpAny M A mk (fun acc s3 => wpAny M A (newFunctionEnv scope env.globals cl [] env.qual none .none (some env)) (fun cv s4 =>
        codeAny M A (.compStart e 0 it acc { cv with scope := relabel scope env }) (postX M A E use Q acc cv.frame cv.locals) s4) E s3) E s2) E s1) E s) : wpAny M A (comprehension e scope env pos mk false first use) Q E s := by
  unfold comprehension
  rw [hclos, hcl]
  refine wpAny_bind (wpAny_mono h (fun x s1 h1 => ?_) fun _ _ z => z)
  refine wpAny_bind (wpAny_standAt (wpAny_bind (wpAny_of_eq (hs x) (wpAny_bind (wpAny_holding (wpAny_mono h1 (fun it s2 h2 => wpAny_standIf (wpAny_bind (wpAny_mono h2 (fun acc s3 h3 => wpAny_bind (wpAny_pure (wpAny_bind (wpAny_mono h3 (fun cv s4 h4 => ?_) fun _ _ z => z)))) fun _ _ z => z))) fun _ _ z => z))))))
  dsimp only
  have v1 : ∀ x ∈ (scope.names.filter fun x => (x.2 == .local || x.2 == .cell) && x.1 != (".0" : Str)).reverse, x.2 = .local → Env.kindOf { cv with scope := relabel scope env } x.1 = some .local :=
    fun x hx hl => lookup_relabel_local (hn x (List.mem_filter.mp (List.mem_reverse.mp hx)).1 hl)
  have v2 : ∀ x ∈ (scope.names.filter fun x => (x.2 == .local || x.2 == .cell) && x.1 != (".0" : Str)).reverse.drop 1 ++ (scope.names.filter fun x => (x.2 == .local || x.2 == .cell) && x.1 != (".0" : Str)).reverse.take 1, x.2 = .local →
      Env.kindOf { cv with scope := relabel scope env } x.1 = some .local := fun x hx hl => (List.mem_append.mp hx).elim (fun z => v1 x (List.mem_of_mem_drop z) hl) fun z => v1 x (List.mem_of_mem_take z) hl
  refine wpAny_holding (wpAny_bind (wpAny_attempt (wpAny_holding (wpAny_run (codeAny_mono h4 fun r s' hr => ?_)))))
  cases r with
  | error x =>
    obtain ⟨m, hm, hr⟩ := hr
    refine wpAny_bind (wpAny_holding (wpAny_comp_letGo (cenv := { cv with scope := relabel scope env }) hk _ s' m v1 hm fun h' m' _ sb => ?_))
    exact wpAny_mono (hr h' sb { cv with scope := relabel scope env } rfl) (fun _ _ z => z.elim) fun _ _ z => z
  | ok f =>
    have hr : compPost M A E use Q acc cv.locals (.ok f) s' := hr
    cases use with
    | none =>
      obtain ⟨m, hm, hr⟩ := hr
      refine wpAny_bind (wpAny_holding (wpAny_comp_letGo (cenv := { cv with scope := relabel scope env }) hk _ s' m v1 hm fun h' m' _ sb => wpAny_pure (hr h' sb)))
    | some u =>
      have hr : wpAny M A (u acc) (fun _ s'' => ∃ m, s''.heap.Ns cv.locals m ∧ ∀ h', Heap.SameBut cv.locals s''.heap h' → Q .none { s'' with heap := h' }) E s' := hr
      refine wpAny_bind (wpAny_rule (wpAny_bind (wpAny_holding (wpAny_mono hr (fun _ s'' z => ?_) fun _ _ z => z))))
      obtain ⟨m, hm, z⟩ := z
      refine wpAny_bind (wpAny_comp_letGo (cenv := { cv with scope := relabel scope env }) hk _ s'' m v2 hm fun h' m' _ sb => wpAny_pure (z h' sb))
end
theorem ff_but {base base' h h' : Heap} : ∀ {l : List Env}, h.FunFrames base l → (∀ L ∈ frs l, base.get? L = none → base'.get? L = none) → (∀ L ∈ frs l, ∀ o, h.get? L = some o → h'.get? L = some o) → h'.FunFrames base' l
  | [], _, _, _ => trivial
  | env :: l, ff, h1, h2 => by
    obtain ⟨hk, ⟨L, o, hf, hb, ho, hd⟩, hr⟩ := ff
    have mm : ∀ b, b ∈ frs l → b ∈ frs (env :: l) := fun b hm => by
      obtain ⟨e, he, q⟩ := List.mem_filterMap.mp hm
      exact List.mem_filterMap.mpr ⟨e, List.mem_cons_of_mem _ he, q⟩
    have m : L ∈ frs (env :: l) := List.mem_filterMap.mpr ⟨env, List.mem_cons_self, hf⟩
    exact ⟨hk, ⟨L, o, hf, h1 L m hb, h2 L m o ho, hd⟩, ff_but hr (fun b hm => h1 b (mm b hm)) fun b hm => h2 b (mm b hm)⟩
section
variable {X : Cx} {pins : List (Addr × Obj)} {σ : L2.St} {H : Hp} {s : Shared}
/-- what a callee lets out within the block is noted there, and leaves the comprehension into the def's air -/
theorem blk_pass {E : XK} {scope : Scope} {ce : Env} {fp : List Addr} {use : Option (Value → Sem Unit)} {Qf : Value → Shared → Prop} {acc : Value} (hs0 : X.stack = X.env :: X.outer) (hf0 : X.env.frame = some X.env.locals) (tk : Takes X (fun cls d _ H => E cls d H))
    (I : L2.Inv X pins σ H s) (f3 : ∀ b ∈ fp, FpOk X pins H b ∧ b < s.heap.objs.size) (cL : ce.locals = s.heap.objs.size) (cf : ce.frame = X.env.frame) :
    Passes (L2.CX X.prog X.w) ((X.blk s H scope ce fp).wish (notedBy (model X.prog X.w) X.A ce fun e s' => postX (model X.prog X.w) X.A X.xe use Qf acc X.env.frame s.heap.objs.size (.error e) s')) E := by
  intro pins1 σ1 H1 s1 u s' I1 c
  obtain ⟨a, B0, _, _, _, e0, fl0, _⟩ := id c
  obtain ⟨a1, B, sI, pins2, σ2, H2, cls, d, e1, J, nb, up, sky, na, os, ag, w⟩ := XE.of_call (X := X.blk s H scope ce fp) (W := fun cls d _ H => E cls d H) I1.unwish (fun _ _ _ h => h) c
  subst e1
  cases e0
  have fl : HandSPX.FlyingZ B X.stack a (Zc cls d) s'.heap := by
    obtain ⟨_, _, _, oe, vs, T, oT, ts, he, _, hd, h1, _, _, hT, hdT, h3⟩ := fl0
    rcases sky with ⟨_, _, _, oe', vs', he', _, hd', h1'⟩ | fl | ⟨_, _, _, oe', vs', T', oT', ts', he', _, hd', h1', _, _, hT', hdT', h3'⟩
    · rw [he] at he'; cases he'
      rw [hd] at hd'; cases hd'
      rw [h1] at h1'; cases h1'
    · exact fl
    · rw [he] at he'; cases he'
      rw [hd] at hd'; cases hd'
      rw [h1] at h1'; cases h1'
      rw [hT] at hT'; cases hT'
      rw [hdT] at hdT'; cases hdT'
      rw [h3] at h3'; cases h3'
  generalize hC : s.heap.objs.size = C at *
  have JX : L2.Inv X pins σ H2 sI := I.call' (ch := fp) J.os J.base J.hok J.bare fun b hb => ⟨(f3 b hb).1.2.2.2.1, (f3 b hb).1.2.1, (f3 b hb).1.2.2.2.2.1, (f3 b hb).1.2.2.2.2.2⟩
  have nC : H2 C = none := by
    have z : H2 ce.locals = none := J.free
    rwa [cL] at z
  have fC : FpOk X pins H2 C := I.fpOk (Nat.le_of_eq hC) nC
  obtain ⟨m, hn, _⟩ := J.loc
  have hn : sI.heap.Ns ce.locals m := hn
  rw [cL] at hn
  obtain ⟨oC, es, ep, hoC, rC⟩ := hn
  have nCf : C ∉ frs X.stack := fun hm => (List.mem_cons.mp (I.stkSub C hm)).elim fC.2.1 fC.2.2.1
  have BC : B.get? C = some oC := nb _ _ hoC nCf
  have hfr : X.A.frames = some (X.env :: X.outer) := by rw [I.ok.frames, hs0]
  show wpAny (model X.prog X.w) X.A (noteFrame (.ref a) ce) (fun _ s2 => postX (model X.prog X.w) X.A X.xe use Qf acc X.env.frame C (.error (.ref a)) s2) _ s'
  rw [note_by_frame cf]
  refine HandSPX.looks_onZ Zc.steady hfr hf0 (by rw [← hs0]; exact fl) fun h3 hh3 up3 => ?_
  refine ⟨m, ⟨oC, es, ep, hh3.1 C oC BC, rC⟩, fun h4 sb cv hcv => ?_⟩
  obtain ⟨k1, k2, k3, oe, vs, T, oT, ts, he, hz, hd, h1, nT, hTe, hT, hdT, h3'⟩ := hh3
  have aC : a ≠ C := fun e => by rw [e, BC] at k2; cases k2
  have TC : T ≠ C := fun e => by rw [e, BC] at nT; cases nT
  have ob : ∀ {b o}, (PySem.W.hideAll B [C]).get? b = some o → b ≠ C ∧ B.get? b = some o := fun {b o} e => by
    refine ⟨fun z => ?_, PySem.W.of_hideAll _ e⟩
    rw [PySem.W.hideAll_none [C] (by rw [z]; exact List.mem_cons_self)] at e
    cases e
  have hb : ∀ {b}, B.get? b = none → (PySem.W.hideAll B [C]).get? b = none := fun {b} e => by
    cases q : (PySem.W.hideAll B [C]).get? b with
    | none => rfl
    | some o =>
      have z := PySem.W.of_hideAll _ q
      rw [e] at z
      cases z
  have st4 : (PySem.W.hideAll B [C]).StaysIn h4 := fun b o e => (sb.2 b (ob e).1).trans (k1 b o (ob e).2)
  have ff4 : h4.FunFrames (PySem.W.hideAll B [C]) (X.env :: X.outer) := ff_but k3 (fun L _ e => hb e) fun L hL o e => (sb.2 L fun z => nCf (by rw [hs0, ← z]; exact hL)).trans e
  have tz4 : HandSPX.TracedZ h4 (PySem.W.hideAll B [C]) a (Zc cls d) (rawInt X.env.locals) := ⟨oe, vs, T, oT, ts, (sb.2 a aC).trans he, hz, hd, h1, hb nT, hTe, (sb.2 T TC).trans hT, hdT, h3'⟩
  unfold PySem.passOn
  refine wpAny_bind (wpAny_field ((sb.2 a aC).trans he) hd h1 ?_)
  rw [if_neg (show ¬ ((Value.ref T == Value.none) = true) from by simp)]
  have fin : wpAny (model X.prog X.w) X.A (setFlight (.ref a) cv.frame) (fun _ s4 => wpAny (model X.prog X.w) X.A (throw (.ref a) : Sem Value) (fun _ _ => False) X.xe s4) X.xe { s' with heap := h4 } := by
    rw [hcv, hf0]
    refine HandSPX.setFlight_anyZ st4 ff4 tz4 fun h5 q1 q2 q3 q4 => wpAny_throw (tk _ _ ?_)
    refine ⟨a, PySem.W.hideAll B [C], { sI with heap := PySem.W.hideAll sI.heap [C] }, pins, σ, H2, cls, d, rfl, ?_, fun b o e hbf => ?_, fun b o e hnf => ?_, .inr (.inr ⟨q1, hb k2, by rw [hs0]; exact q2, q3⟩), na, os, ag, w⟩
    · exact JX.turned (t' := sI.toks) (fun b o hbc e => PySem.W.hideAll_get _ e (by simpa using hbc)) nC fC.2.1 fC.2.2.2.1 fC.2.2.2.2.1 fC.2.2.2.2.2
    · have hbc : b ≠ C := fun z => by
        rw [PySem.W.hideAll_none [C] (by rw [z]; exact List.mem_cons_self)] at e; cases e
      exact PySem.W.hideAll_get _ (nb b o (PySem.W.of_hideAll _ e) hbf) (by simpa using hbc)
    · have hbc : b ≠ C := fun z => by
        rw [PySem.W.hideAll_none [C] (by rw [z]; exact List.mem_cons_self)] at e; cases e
      obtain ⟨sl, e1⟩ := up b o (PySem.W.of_hideAll _ e) hnf
      obtain ⟨sl2, e2⟩ := up3 b _ e1 hnf
      obtain ⟨sl3, e3⟩ := q4 b _ ((sb.2 b hbc).trans e2) hnf
      exact ⟨sl3, e3⟩
  first
    | exact wpAny_bind (wpAny_pure (wpAny_bind fin))
    | exact wpAny_bind fin
end
section
variable {X : Cx}
theorem lcx_core {pins : List (Addr × Obj)} {s : Shared} {σ : L2.St} {H : Hp} {Q : VK} {E : XK} {elt tg iter : Expr} {ifs : List Expr} {scope : Scope} {own : List (Str × Nat)} {pos pos' : Pos} {wi : TI} {g : TG} {tt : TT} {te : TE} {use : Option (Value → Sem Unit)} {Qf : Value → Shared → Prop}
    (hs0 : X.stack = X.env :: X.outer) (hf0 : X.env.frame = some X.env.locals) (tk : Takes X (fun cls d _ H => E cls d H)) (hc : X.calm = true) (hN : X.N.Nodup) (I : L2.Inv X pins σ H s) (hi : PI X tg iter wi) (ok : BlkOk X.N X.env.scope scope own)
    (hg : ∀ (s : Shared) (H : Hp) (C : Addr) (cl : List (Str × Addr)) (fp : List Addr), PG (X.blk s H scope (compEnvC scope cl C X.env) fp) tg g)
    (ht : ∀ (s : Shared) (H : Hp) (C : Addr) (cl : List (Str × Addr)) (fp : List Addr), PTs (X.blk s H scope (compEnvC scope cl C X.env) fp) ifs tt)
    (he : ∀ (s : Shared) (H : Hp) (C : Addr) (cl : List (Str × Addr)) (fp : List Addr) (W : Value → Shared → Prop), Passes (L2.CX X.prog X.w) ((X.blk s H scope (compEnvC scope cl C X.env) fp).wish W) E → PE ((X.blk s H scope (compEnvC scope cl C X.env) fp).wish W) elt te)
    (hs : ∀ x, foldedSetIterable iter X.env x = pure x) (h : tLc wi g tt te (own.map (·.2)) σ H Q)
    (hRR : ∀ D C s' m H', L2.Inv X pins σ H' s' → Q (.ref D) H' → s'.heap.Ns C m → FpOk X pins H' C → compPost (model X.prog X.w) X.A X.xe use Qf (.ref D) C (.ok .next) s') :
    wpAny (model X.prog X.w) X.A (comprehension (.ListComp elt [⟨tg, iter, ifs, 0⟩] scope pos) scope X.env pos' (newList []) false (eval iter X.env) use) Qf X.xe s := by
  have hfree : ∀ y ∈ scope.names, y.2 = .free → ∃ c, X.env.cells.lookup y.1 = some c := fun y hy e => (ok.free y hy e).elim (fun k => I.ok.has _ (.inl k)) fun k => I.ok.has _ (.inr k)
  refine comp_freeX (use := use) rfl hs (closure_ok hfree) ok.kind (fun y hy e => by rw [ok.uniq y hy, e]) (thn (hi.run pins s σ H _ I h) fun xv s1 hx => thn hx fun itv s2 h2 => ?_)
  obtain ⟨it, fp, tn, J, H2, e, I2, T, st2, f2, q⟩ := h2
  subst e
  refine wpAny_newObj_type (newEnv_comp ?_) (Nat.zero_le _)
  generalize hD : s2.heap.objs.size = D
  have hDn : H2 D = none := I2.hok.fresh (Nat.le_of_eq hD)
  obtain ⟨W, ⟨m0, w0⟩, turn⟩ := q D hDn
  generalize hs3 : ({ s2 with heap := s2.heap.push { cls := .type "list", data := .seq ([] : List Value).toArray } } : Shared) = s3
  have h3 : s3.heap = s2.heap.push { cls := .type "list", data := .seq ([] : List Value).toArray } := by rw [← hs3]
  have I3 : L2.Inv X pins σ (upd H2 D (.lst [])) s3 := by
    subst hs3
    exact I2.laid (t' := s2.toks) (fun b o e => Heap.get?_push_of_some _ e) (Nat.le_of_eq hD) ⟨Nat.zero_le _, [], 0, .nil, by rw [← hD]; exact Heap.get?_push_size _ rfl⟩
  have f3 : ∀ b ∈ fp, FpOk X pins (upd H2 D (.lst [])) b ∧ b < s3.heap.objs.size := fun b hb => by
    obtain ⟨o, e, _⟩ := T.obj _ _ st2 b hb
    have hlt := Heap.lt_size e
    exact ⟨⟨by rw [upd_ne (hD ▸ Nat.ne_of_lt hlt)]; exact (f2 b hb).1, (f2 b hb).2⟩, by rw [h3, Heap.size_push]; exact Nat.lt_succ_of_lt hlt⟩
  have st3 : tn 0 s3.heap := T.keep _ _ _ st2 fun b _ o e => by rw [h3]; exact Heap.get?_push_of_some _ e
  have I4 := block_start I3 ok hN f3
  generalize hH3 : upd H2 D (.lst []) = H3 at I3 I4 f3 w0
  have pg := hg s3 H3 s3.heap.objs.size (cellsFrom (s3.heap.objs.size + 1) scope.names (cloFrom X.env.cells scope.names [])) fp
  have pt := ht s3 H3 s3.heap.objs.size (cellsFrom (s3.heap.objs.size + 1) scope.names (cloFrom X.env.cells scope.names [])) fp
  have pe := he s3 H3 s3.heap.objs.size (cellsFrom (s3.heap.objs.size + 1) scope.names (cloFrom X.env.cells scope.names [])) fp
  show codeAny _ _ (.compStart (.ListComp elt [⟨tg, iter, ifs, 0⟩] scope pos) 0 (.ref it) (.ref D) (compEnvC scope (cellsFrom (s3.heap.objs.size + 1) scope.names (cloFrom X.env.cells scope.names [])) s3.heap.objs.size X.env)) (postX (model X.prog X.w) X.A X.xe use Qf (.ref D) X.env.frame s3.heap.objs.size) { s3 with heap := pushCells (s3.heap.push { cls := .type "dict", data := .dict #[] }) scope.names }
  generalize hce : compEnvC scope (cellsFrom (s3.heap.objs.size + 1) scope.names (cloFrom X.env.cells scope.names [])) s3.heap.objs.size X.env = ce at I4 pg pt pe ⊢
  have cL : ce.locals = s3.heap.objs.size := by subst hce; rfl
  have cf : ce.frame = X.env.frame := by subst hce; rfl
  have pe := pe _ (blk_pass (use := use) (Qf := Qf) (acc := .ref D) hs0 hf0 tk I3 f3 cL cf)
  have nfp : ∀ b ∈ fp, H3 b = none := fun b hb => (f3 b hb).1.1
  generalize hs4 : ({ s3 with heap := pushCells (s3.heap.push { cls := .type "dict", data := .dict #[] }) scope.names } : Shared) = s4 at I4 ⊢
  have st4 : tn 0 s4.heap := T.keep _ _ _ st3 fun b _ o e => by rw [← hs4]; exact pushCells_keeps _ _ _ _ (Heap.get?_push_of_some _ e)
  have stat : ∀ {σ' : L2.St} {H' : Hp} {s' : Shared}, L2.Inv (X.blk s3 H3 scope ce fp) [] σ' H' s' → (∀ b ∈ fp, H' b = none) → ∀ b ∈ fp, FpOk (X.blk s3 H3 scope ce fp) [] H' b := fun {σ' H' s'} I' hn b hb =>
    ⟨hn b hb, (I'.ok.exf b hb).1, I'.ok.exfs b hb, .inl hb, fun x c e => (I'.ok.exf b hb).2 x c e, fun p hp => by cases hp⟩
  have loop : codeAny (model X.prog X.w) X.A (.compLoop (.ListComp elt [⟨tg, iter, ifs, 0⟩] scope pos) 0 (.ref it) (.ref D) ce) (postX (model X.prog X.w) X.A X.xe use Qf (.ref D) X.env.frame s3.heap.objs.size) s4 := by
    refine compLoop_any (fun n s' => ∃ i H', L2.Inv (X.blk s3 H3 scope ce fp) [] (wipe σ (own.map (·.2))) H' s' ∧ tn i s'.heap ∧ (∀ b ∈ fp, H' b = none) ∧ W i n H') ?_ m0 ⟨0, H3, I4, st4, nfp, w0⟩
    rintro n s5 ⟨i, H5, I5, st5, n5, w5⟩
    rcases turn i n H5 w5 with ⟨stop, qq⟩ | ⟨go, Nx, hNx, step⟩
    · refine thnF (T.done (X.blk s3 H3 scope ce fp) rfl rfl rfl hc i [] s5 _ H5 (fun _ _ => False) I5 (stat I5 n5) st5 stop) fun r s6 z => ?_
      obtain ⟨hr, I6⟩ := z
      subst hr
      have I7 : L2.Inv X pins σ H5 s6 := I3.call' (ch := fp) I6.os I6.base I6.hok I6.bare fun b hb => ⟨(f3 b hb).1.2.2.2.1, (f3 b hb).1.2.1, (f3 b hb).1.2.2.2.2.1, (f3 b hb).1.2.2.2.2.2⟩
      have nC : H5 s3.heap.objs.size = none := cL ▸ (show H5 ce.locals = none from I6.free)
      obtain ⟨m, hn, _⟩ := I6.loc
      have hn : s6.heap.Ns ce.locals m := hn
      exact hRR D s3.heap.objs.size s6 m H5 I7 qq (cL ▸ hn) (I3.fpOk (Nat.le_refl _) nC)
    · refine thnF (T.item (X.blk s3 H3 scope ce fp) rfl rfl rfl hc i [] s5 _ H5 (fun _ _ => False) I5 (stat I5 n5) st5 go) fun r s6 z => ?_
      obtain ⟨u, hr, h6⟩ := z
      subst hr
      refine thnF h6 fun _ s7 z => ?_
      obtain ⟨x, H7, I7, r7, y7, st7, n7⟩ := z
      have I7' := I7.pinned (stat I7 n7) (T.obj _ _ st7)
      refine thnF (pg.run _ s7 _ H7 x u _ I7' r7 (step x H7 y7)) fun _ s8 z => ?_
      obtain ⟨σ8, H8, I8, hw8, q8⟩ := z
      refine thnF (pt.run _ s8 σ8 H8 _ I8 q8) fun b s9 z => ?_
      obtain ⟨H9, I9, q9⟩ := z
      have fin : ∀ {s' : Shared} {H' : Hp}, L2.Inv (X.blk s3 H3 scope ce fp) ([] ++ pinsAt fp s7.heap) σ8 H' s' → Nx H' → ∃ m, m < n ∧ ∃ i H', L2.Inv (X.blk s3 H3 scope ce fp) [] (wipe σ (own.map (·.2))) H' s' ∧ tn i s'.heap ∧ (∀ b ∈ fp, H' b = none) ∧ W i m H' := fun {s' H'} I' nx => by
        obtain ⟨m', hm, w'⟩ := hNx H' nx
        have pin' : ∀ b ∈ fp, ∀ o, s7.heap.get? b = some o → s'.heap.get? b = some o ∧ H' b = none := fun b hb o e => by
          have z := I'.pin (b, o) (List.mem_append_right _ (List.mem_append_right _ (mem_pinsAt hb e)))
          exact ⟨z.1, z.2.1⟩
        have hl : (wipe σ (own.map (·.2))).length = σ8.length := by rw [← hw8, wipe_length]
        refine ⟨m', hm, i + 1, H', (I'.unpinned (pins := [])).weak hl (fun j v e => (wipe_some (hw8 ▸ e)).1), T.keep _ _ _ st7 fun b hb o e => (pin' b hb o e).1, fun b hb => ?_, w'⟩
        obtain ⟨o, e, _⟩ := T.obj _ _ st7 b hb
        exact (pin' b hb o e).2
      cases b with
      | false =>
        rw [if_neg Bool.false_ne_true] at q9 ⊢
        exact fin I9 q9
      | true =>
        rw [if_pos rfl] at q9 ⊢
        refine wpAny_mono (pe.run _ s9 σ8 H9 _ (I9.wish _) q9) (fun z s10 y => ?_) fun _ _ y => y
        obtain ⟨yv, H10, I10, r10, acc, hD10, hz10, nx⟩ := y
        exact app_ok (X := X.blk s3 H3 scope ce fp) I10.unwish hD10 hz10 r10 fun s11 I11 => fin I11 nx
  exact codeAny_compStart_list loop (T.self X.A 0 _ _ _ st4 loop)
theorem pe_lcX {E : XK} {elt tg iter : Expr} {ifs : List Expr} {scope : Scope} {own : List (Str × Nat)} {pos : Pos} {wi : TI} {g : TG} {tt : TT} {te : TE} (hs0 : X.stack = X.env :: X.outer) (hf0 : X.env.frame = some X.env.locals) (tk : Takes X (fun cls d _ H => E cls d H)) (hc : X.calm = true) (hN : X.N.Nodup)
    (hi : PI X tg iter wi) (ok : BlkOk X.N X.env.scope scope own) (hg : ∀ (s : Shared) (H : Hp) (C : Addr) (cl : List (Str × Addr)) (fp : List Addr), PG (X.blk s H scope (compEnvC scope cl C X.env) fp) tg g)
    (ht : ∀ (s : Shared) (H : Hp) (C : Addr) (cl : List (Str × Addr)) (fp : List Addr), PTs (X.blk s H scope (compEnvC scope cl C X.env) fp) ifs tt)
    (he : ∀ (s : Shared) (H : Hp) (C : Addr) (cl : List (Str × Addr)) (fp : List Addr) (W : Value → Shared → Prop), Passes (L2.CX X.prog X.w) ((X.blk s H scope (compEnvC scope cl C X.env) fp).wish W) E → PE ((X.blk s H scope (compEnvC scope cl C X.env) fp).wish W) elt te)
    (hs : ∀ x, foldedSetIterable iter X.env x = pure x := by intro _; rfl) : PE X (.ListComp elt [⟨tg, iter, ifs, 0⟩] scope pos) (tLc wi g tt te (own.map (·.2))) := by
  refine ⟨fun pins s σ H Q I h => ?_⟩
  rw [eval_ListComp]
  refine lcx_core hs0 hf0 tk hc hN I hi ok hg ht he hs h fun D C s' m H' I' q hn f => ⟨m, hn, fun h'' sb => ?_⟩
  obtain ⟨f0, f1, f2, f3, f4, f5⟩ := f
  exact ⟨.ref D, H', I'.turned (t' := s'.toks) (fun b o hb e => (sb.2 b hb).trans e) f0 f1 f3 f4 f5, rfl, q⟩
theorem ps_setLcX {E : XK} {i : Nat} {y : Str} {py : Pos} {elt tg iter : Expr} {ifs : List Expr} {scope : Scope} {own : List (Str × Nat)} {pos sp : Pos} {wi : TI} {g : TG} {tt : TT} {te : TE} (hs0 : X.stack = X.env :: X.outer) (hf0 : X.env.frame = some X.env.locals) (tk : Takes X (fun cls d _ H => E cls d H)) (hc : X.calm = true)
    (hN : X.N.Nodup) (hy : X.N[i]? = some y) (hyl : X.env.scope.names.lookup y = some .local) (hsw : swapsWith (.ListComp elt [⟨tg, iter, ifs, 0⟩] scope pos) (some (.Name y py)) sp.line X.env = pure true) (hi : PI X tg iter wi) (ok : BlkOk X.N X.env.scope scope own)
    (hg : ∀ (s : Shared) (H : Hp) (C : Addr) (cl : List (Str × Addr)) (fp : List Addr), PG (X.blk s H scope (compEnvC scope cl C X.env) fp) tg g)
    (ht : ∀ (s : Shared) (H : Hp) (C : Addr) (cl : List (Str × Addr)) (fp : List Addr), PTs (X.blk s H scope (compEnvC scope cl C X.env) fp) ifs tt)
    (he : ∀ (s : Shared) (H : Hp) (C : Addr) (cl : List (Str × Addr)) (fp : List Addr) (W : Value → Shared → Prop), Passes (L2.CX X.prog X.w) ((X.blk s H scope (compEnvC scope cl C X.env) fp).wish W) E → PE ((X.blk s H scope (compEnvC scope cl C X.env) fp).wish W) elt te)
    (hs : ∀ x, foldedSetIterable iter X.env x = pure x := by intro _; rfl) : PS X (.Assign [.Name y py] (.ListComp elt [⟨tg, iter, ifs, 0⟩] scope pos) sp) (tAsg (tLc wi g tt te (own.map (·.2))) (gName i)) := by
  refine ⟨fun pins s σ H D I h => ?_⟩
  rw [exec_Assign_Name_used _ _ _ _ hsw]
  refine wpAny_bind (wpAny_standAt (wpAny_bind ?_))
  have h : tLc wi g tt te (own.map (·.2)) σ H (fun x H1 => gName i x σ H1 D.nx) := h
  refine wpAny_bind (thn (lcx_core (use := some (assign (.Name y py) X.env)) (Qf := fun _ s' => SP X pins D .next s') hs0 hf0 tk hc hN I hi ok hg ht he hs h fun L C s' m H' I' q hn f => ?_) fun _ s' hq => wpAny_pure (wpAny_pure hq))
  show wpAny _ _ (assign (.Name y py) X.env (.ref L)) _ _ _
  refine wpAny_assign_Name (store_ok2 (v := V.ref L) I' hN hy (.inl hyl) rfl (fun s2 I2 z => ?_) (.inr hyl))
  obtain ⟨a, sb, ha⟩ := z
  obtain ⟨f0, f1, f2, f3, f4, f5⟩ := f
  have haC : C ≠ a := ha.elim (fun z => by rw [z]; exact f1) fun z e => f4 y a z e.symm
  exact ⟨m, hn.sameBut sb haC, fun h3 sb3 => ⟨_, H', I2.turned (t' := s2.toks) (fun b o hb e => (sb3.2 b hb).trans e) f0 f1 f3 f4 f5, q⟩⟩
end

end Su
namespace Su
open TL
/-! ### words read or refused: what they tell -/
abbrev figS : Str := Str.ofString "0123456789"
theorem fig_mem {c : Nat} : c ∈ figS.cps.toList ↔ 48 ≤ c ∧ c ≤ 57 := by
  have e : figS.cps.toList = (List.range 10).map fun k => 48 + k := by decide +kernel
  rw [e, List.mem_map]
  exact ⟨fun ⟨k, hk, h⟩ => by have := List.mem_range.mp hk; omega, fun ⟨h1, h2⟩ => ⟨c - 48, List.mem_range.mpr (by omega), by omega⟩⟩
def digB (z : Str) : Bool := (decide ((1 : Int) ≤ (z.length : Int)) && decide ((z.length : Int) ≤ 12)) && (tl z).all fun c => decide (c ∈ figS.cps.toList)
def zeroB (z : Str) : Bool := decide ((tl z).head? = some 48) && !decide (z = Str.ofString "0")
def numB (z : Str) : Bool := digB z && !zeroB z
def valT (z : Str) : Int := (PySem.intText? z).getD 0
theorem digB_len {z : Str} (h : digB z = true) : 1 ≤ z.length ∧ z.length ≤ 12 := by
  unfold digB at h
  simp only [Bool.and_eq_true, decide_eq_true_eq] at h
  omega
theorem digB_reads {z : Str} (h : digB z = true) : PySem.intText? z = some (valT z) := by
  have hl := digB_len h
  have hd : PySem.NumText.AllDigits z.cps.toList := by
    unfold digB at h
    rw [Bool.and_eq_true] at h
    exact fun c hc => fig_mem.mp (of_decide_eq_true (List.all_eq_true.mp h.2 c hc))
  have hne : z.cps.toList ≠ [] := fun e => by
    have h2 : z.cps.toList.length = z.length := Array.length_toList
    rw [e] at h2
    change 0 = _ at h2
    omega
  have e := PySem.intText_digits hd hne (Nat.le_trans hl.2 (by decide))
  unfold valT
  rw [e]
  rfl
theorem head_first {z : Str} (h : 1 ≤ z.length) : ∃ c, atI z.cps.toList 0 = some c ∧ (tl z).head? = some c := by
  rw [len_tl] at h
  show ∃ c, atI (tl z) 0 = some c ∧ _
  cases e : tl z with
  | nil => rw [e] at h; exact absurd h (by decide)
  | cons c r => exact ⟨c, atI_nat (j := 0) rfl, rfl⟩
theorem str_one {c : Nat} : ((⟨#[c]⟩ : Str) = Str.ofString "0") ↔ c = 48 := by
  constructor
  · intro e
    have h2 := congrArg tl e
    rw [show tl (Str.ofString "0") = [48] from by decide +kernel] at h2
    have h3 : [c] = [48] := h2
    simpa using h3
  · rintro rfl
    decide +kernel
/-- a word by its sign in the form: 110 a name, 99 a number, else as it stands -/
def rdOne (c : Nat) (z : Str) : Option DW := if c = 110 then (if isNameB z = true then some (.nm z) else none) else if c = 99 then (if numB z = true then some (.no (valT z)) else none) else some (.nm z)
def rdAll : List (Nat × Str) → Option (List DW)
  | [] => some []
  | p :: r => (rdOne p.1 p.2).bind fun a => (rdAll r).map fun b => a :: b
theorem rdAll_cons {p : Nat × Str} {r : List (Nat × Str)} {ps : List DW} (h : rdAll (p :: r) = some ps) : ∃ a b, rdOne p.1 p.2 = some a ∧ rdAll r = some b ∧ ps = a :: b := by
  have h : ((rdOne p.1 p.2).bind fun a => (rdAll r).map fun b => a :: b) = some ps := h
  obtain ⟨a, ha, h⟩ := Option.bind_eq_some_iff.mp h
  obtain ⟨b, hb, rfl⟩ := Option.map_eq_some_iff.mp h
  exact ⟨a, b, ha, hb, rfl⟩
theorem rdAll_get : ∀ {l : List (Nat × Str)} {ps : List DW}, rdAll l = some ps → ps.length = l.length ∧ ∀ (i : Nat) (p : Nat × Str), l[i]? = some p → rdOne p.1 p.2 = ps[i]?
  | [], ps, h => by
    obtain rfl := Option.some.inj h
    exact ⟨rfl, fun i p hp => nomatch hp⟩
  | q :: r, ps, h => by
    obtain ⟨a, b, ha, hb, rfl⟩ := rdAll_cons h
    obtain ⟨h1, h2⟩ := rdAll_get hb
    refine ⟨by rw [List.length_cons, List.length_cons, h1], fun i p hp => ?_⟩
    cases i with
    | zero =>
      obtain rfl := Option.some.inj hp
      exact ha
    | succ i => exact h2 i p hp
theorem rdAll_none : ∀ {l : List (Nat × Str)}, rdAll l = none → ∃ (i : Nat) (p : Nat × Str), l[i]? = some p ∧ rdOne p.1 p.2 = none
  | [], h => nomatch h
  | q :: r, h => by
    have h : ((rdOne q.1 q.2).bind fun a => (rdAll r).map fun b => a :: b) = none := h
    cases hq : rdOne q.1 q.2 with
    | none => exact ⟨0, q, rfl, hq⟩
    | some a =>
      rw [hq] at h
      have h : (rdAll r).map (fun b => a :: b) = none := h
      obtain ⟨i, p, h1, h2⟩ := rdAll_none (Option.map_eq_none_iff.mp h)
      exact ⟨i + 1, p, h1, h2⟩
theorem rdAll_append : ∀ (l1 l2 : List (Nat × Str)), rdAll (l1 ++ l2) = (rdAll l1).bind fun a => (rdAll l2).map fun b => a ++ b
  | [], l2 => by
    show rdAll l2 = (rdAll l2).map fun b => [] ++ b
    cases rdAll l2 <;> rfl
  | p :: r, l2 => by
    show ((rdOne p.1 p.2).bind fun a => (rdAll (r ++ l2)).map fun b => a :: b) = _
    rw [rdAll_append r l2]
    show _ = ((rdOne p.1 p.2).bind fun a => (rdAll r).map fun b => a :: b).bind _
    cases rdOne p.1 p.2 with
    | none => rfl
    | some a =>
      cases rdAll r with
      | none => rfl
      | some b =>
        cases rdAll l2 with
        | none => rfl
        | some c => rfl
def rdWords (ws : List Str) (fs : List Nat) : Option (List DW) := if ws.length = fs.length then rdAll (fs.zip ws) else none
/-! ### a comprehension in which an item refuses -/
def Goes (te : TE) (σ : L2.St) (H : Hp) : Prop := ∀ H1, Ex H H1 → ∀ Q : VK, (∀ y H2, Ex H1 H2 → Q y H2) → te σ H1 Q
theorem goes_ev {te : TE} {σ : L2.St} {H : Hp} {v : V} (h : Ev te σ H v) : Goes te σ H := fun H1 e Q q => h H1 e Q fun H2 e2 => q v H2 e2
section
variable {K : PySem.W.Frag} {σ : L2.St} {H : Hp} {te : TE} {g : TG} {vs : List Nat}
theorem bad_turn {H1 H' : Hp} {D : Addr} {i i0 : Nat} {σ2 : L2.St} (hD : H1 D = none) (hi : i ≤ i0) (h0 : i0 < 50000) (e : Ex H1 H') (hl : ∃ acc, H' D = some (.lst acc) ∧ acc.length = i) (hg : Goes te σ2 H') (hb : i = i0 → ∀ H2, Ex H' H2 → ∀ Q, te σ2 H2 Q) :
    tYes σ2 H' fun b H3 => if b = true then te σ2 H3 fun y H4 => ∃ acc, H4 D = some (.lst acc) ∧ acc.length < sizeLine ∧ (i + 1 ≤ i0 ∧ Ex H1 (upd H4 D (.lst (acc ++ [y]))) ∧ ∃ acc', (upd H4 D (.lst (acc ++ [y]))) D = some (.lst acc') ∧ acc'.length = i + 1) else i + 1 ≤ i0 ∧ Ex H1 H3 ∧ ∃ acc, H3 D = some (.lst acc) ∧ acc.length = i + 1 := by
  unfold tYes
  dsimp only
  rw [if_pos rfl]
  by_cases hi0 : i = i0
  · exact hb hi0 H' (Ex.refl _) _
  · obtain ⟨acc, ha, hal⟩ := hl
    exact hg H' (Ex.refl _) _ fun y H4 e4 => ⟨acc, e4 _ _ ha, sz_lt (by omega), by omega, Ex.mut (e.trans e4) hD, _, upd_same, by rw [List.length_append, hal]; rfl⟩
theorem lcw_bad {J : It} {n : Nat} {G : Hp → Prop} {Y : Nat → Hp → V → Hp → Prop} (w : Walk J n G Y) (X : Nat → V → Prop) (hY : ∀ i H x H', Y i H x H' → H' = H ∧ X i x) {H1 : Hp} {Q : VK} (hG : ∀ H', Ex H1 H' → G H') (hn : n ≤ 40000) {i0 : Nat} (h0 : i0 < n)
    (hs : ∀ i x Hb, Ex H1 Hb → i < n → X i x → ∃ σ2, Tgt g x (wipe σ vs) σ2 Hb ∧ wipe σ2 vs = wipe σ vs ∧ Goes te σ2 Hb ∧ (i = i0 → ∀ H2, Ex Hb H2 → ∀ Q, te σ2 H2 Q)) :
    ∀ D, H1 D = none → ∃ W : Nat → Nat → Hp → Prop, (∃ m, W 0 m (upd H1 D (.lst []))) ∧ ∀ i m H, W i m H →
      (J.stop i H ∧ Q (.ref D) H) ∨ (J.go i H ∧ ∃ Nx : Hp → Prop, (∀ H', Nx H' → ∃ m', m' < m ∧ W (i + 1) m' H') ∧ ∀ x H', J.yld i H x H' → g x (wipe σ vs) H' fun σ2 H2 => wipe σ2 vs = wipe σ vs ∧ tYes σ2 H2 fun b H3 =>
        if b = true then te σ2 H3 fun y H4 => ∃ acc, H4 D = some (.lst acc) ∧ acc.length < sizeLine ∧ Nx (upd H4 D (.lst (acc ++ [y]))) else Nx H3) := fun D hD =>
  lc_it w (Qd := fun H' => Q (.ref D) H') (fun i H' => i ≤ i0 ∧ Ex H1 H' ∧ ∃ acc, H' D = some (.lst acc) ∧ acc.length = i) ⟨Nat.zero_le _, Ex.new hD, [], upd_same, rfl⟩ (fun i H' _ p => hG _ p.2.1) (fun i x H2 H2' hi p y => by
    obtain ⟨rfl, hx⟩ := hY _ _ _ _ y
    obtain ⟨p1, p2, p3⟩ := p
    obtain ⟨σ2, h1, h2, h3, h4⟩ := hs i x H2' p2 hi hx
    exact h1 _ (Ex.refl _) _ ⟨h2, bad_turn hD p1 (by omega) p2 p3 h3 h4⟩) (fun H' p => absurd p.1 (by omega))
/-- .. over zip(a list, a text) -/
theorem lcZS_bad {ta : TA} {a : Addr} {xs : List V} {z : Str} (h : EvA ta σ H [.ref a, .str z]) (hx : SqL K H a xs) (hl : xs.length = z.cps.size) (hz : xs.length ≤ 40000) {i0 : Nat} (h0 : i0 < xs.length)
    (hs : ∀ (i : Nat) (x : V) (c : Nat) T Hb, Ex H Hb → xs[i]? = some x → z.cps[i]? = some c → Hb T = some (.tup [x, .str ⟨#[c]⟩]) → ∃ σ2, Tgt g (.ref T) (wipe σ vs) σ2 Hb ∧ wipe σ2 vs = wipe σ vs ∧ Goes te σ2 Hb ∧ (i = i0 → ∀ H2, Ex Hb H2 → ∀ Q, te σ2 H2 Q)) :
    ∀ Q, tLc (iZipS K ta) g tYes te vs σ H Q := fun Q => h H (Ex.refl _) _ fun H1 e1 => ⟨a, z, xs, rfl, ex_l e1 hx, fun D hD => by
  refine ⟨fun i m H' => m = xs.length - i ∧ i ≤ xs.length ∧ (i ≤ i0 ∧ Ex H1 H' ∧ ∃ acc, H' D = some (.lst acc) ∧ acc.length = i), ⟨xs.length, by simp, Nat.zero_le _, Nat.zero_le _, Ex.new hD, [], upd_same, rfl⟩, ?_⟩
  rintro i m H' ⟨rfl, hi, p1, p2, p3⟩
  have hX := ex_l (e1.trans p2) hx
  by_cases hlt : i < xs.length
  · have hlt2 : i < z.cps.size := by omega
    refine .inr ⟨⟨xs, xs[i], z.cps[i], hX, List.getElem?_eq_getElem hlt, Array.getElem?_eq_getElem hlt2⟩, fun H2 => i + 1 ≤ i0 ∧ Ex H1 H2 ∧ ∃ acc, H2 D = some (.lst acc) ∧ acc.length = i + 1, fun H2 p' => ⟨xs.length - (i + 1), by omega, rfl, hlt, p'⟩, fun zz H2 hzz => ?_⟩
    obtain ⟨T, x, c, rfl, nT, rfl, hxx, hc⟩ := hzz
    have eT : Ex H' (upd H' T (.tup [x, .str ⟨#[c]⟩])) := Ex.new nT
    obtain ⟨acc, ha, hal⟩ := p3
    obtain ⟨σ2, h1, h2, h3, h4⟩ := hs i x c T _ ((e1.trans p2).trans eT) (hxx xs hX) hc upd_same
    exact h1 _ (Ex.refl _) _ ⟨h2, bad_turn hD p1 (by omega) (p2.trans eT) ⟨acc, eT _ _ ha, hal⟩ h3 h4⟩
  · exact absurd p1 (by omega)⟩
end
theorem any_if {b : Bool} {t : TT} {ta tb : TE} {σ : L2.St} {H : Hp} (h : EvT t σ H b) (h1 : b = true → ∀ H1, Ex H H1 → ∀ Q, ta σ H1 Q) (h2 : b = false → ∀ H1, Ex H H1 → ∀ Q, tb σ H1 Q) : ∀ Q, tIf t ta tb σ H Q := fun Q => h H (Ex.refl _) _ fun H1 e1 => by
  cases b with
  | true => exact h1 rfl H1 e1 Q
  | false => exact h2 rfl H1 e1 Q
theorem any_call {sp : Sp} {dvs vs : List V} {E : XK} {ta : TA} {σ : L2.St} {H : Hp} (h : EvA ta σ H vs) (k : ∀ H1, Ex H H1 → ∀ Q, sp (vs ++ dvs) H1 Q E) : ∀ Q, tCall sp dvs E ta σ H Q := fun Q => h H (Ex.refl _) _ fun H1 e1 => k H1 e1 Q
theorem s_retAny {r : List V → Hp → VK → Prop} {te : TE} {σ : L2.St} {H : Hp} {D : Ends} (h : ∀ Q, te σ H Q) : tRet (tCB r (tCons te tNil)) D σ H := h _
/-! ### read_name, read_number, read_words -/
section
variable {P : Program} {w : World} {K : PySem.W.Frag} {mg : Str → Option Value} {base : Heap}
def spReadNameX (fN : Addr) : Sp := fun vs H Q E => ∃ z : Str, vs = [.str z] ∧ z.length ≤ 40000 ∧ (isNameB z = true → ∀ H', Ex H H' → Q (.str z) H') ∧ (isNameB z = false → ∀ H', Ex H H' → E (.ref fN) none H')
theorem okx_read_name {f : Addr} {fd : FuncData} (F : Fun K "read_name" "read_name" s_read_name f fd) (T : Top K mg) : FnOk P w K mg base (L2.CX P w) 2 f fd ["word"] (spReadNameX T.f_NoDeed) := by
  have nd := sc_read_name.nd
  have G_is_name : FnOk P w K mg base CX0 1 T.f_is_name T.fd_is_name ["text"] spIsName := ok_is_name T.F_is_name T
  refine F.okX sc_read_name (fun vs H Q E h => ?_) (fun cdv A outer s H vs Q E hr h => ?_)
  · obtain ⟨z, rfl, _⟩ := h
    rfl
  · obtain ⟨z, rfl, hz, q, qx⟩ := h
    refine ⟨_, (pss_cons (ps_if (pt_not (pt_val (pe_call G_is_name (hr.mono (by omega)) (by rfl) T.m_is_name T.F_is_name.kp T.b_is_name .nil pass0 (pa_cons (pv 0) pa_nil))))
        (pss_one (ps_raise rfl (takes_of rfl rfl rfl rfl) (pmk_own0 PySem.F.excBase_ValueError T.x_NoDeed T.m_NoDeed T.kp_NoDeed (raises_own T.sb_NoDeed T.ty_NoDeed) (by rfl))))
        pss_nil)
      (pss_one (ps_ret (pv 0)))), ?_⟩
    refine q_when (b := !isNameB z) (et_not (et_B (ev_call (ea_cons (ev_var rfl) ea_nil) (spV_isName hz)))) (fun hb H1 e1 => ?_) (fun hb H1 e1 => ?_)
    · exact qx (by cases h : isNameB z <;> rw [h] at hb <;> first | rfl | cases hb) H1 e1
    · exact s_ret (ev_var rfl) fun H2 e2 => q (by cases h : isNameB z <;> rw [h] at hb <;> first | rfl | cases hb) H2 (e1.trans e2)
def spReadNumX (fN : Addr) : Sp := fun vs H Q E => ∃ z : Str, vs = [.str z] ∧ z.length ≤ 40000 ∧ (numB z = true → ∀ H', Ex H H' → Q (.int (valT z)) H') ∧ (numB z = false → ∀ H', Ex H H' → E (.ref fN) none H')
theorem okx_read_number {f : Addr} {fd : FuncData} (F : Fun K "read_number" "read_number" s_read_number f fd) (T : Top K mg) : FnOk P w K mg base (L2.CX P w) 1 f fd ["word"] (spReadNumX T.f_NoDeed) := by
  have nd := sc_read_number.nd
  refine F.okX sc_read_number (fun vs H Q E h => ?_) (fun cdv A outer s H vs Q E hr h => ?_)
  · obtain ⟨z, rfl, _⟩ := h
    rfl
  · obtain ⟨z, rfl, hz, q, qx⟩ := h
    refine ⟨_, (pss_cons (ps_if (pt_not (PW.pt (pw_and (pt_chain op_le op_le pe_int (pe_callB call_len_str (by rfl) T.m_len PySem.boot_len (pa_cons (pv 0) pa_nil)) (pe_glob (v := .int 12) (by rfl) T.m_MOST_FIGURES ⟨_, rfl⟩)) (pw_and1 (pt_val (pe_callB (cr_all rfl) (by rfl) T.m_all (by decide +kernel) (pa_cons (pe_lc (own := [("sign", 1)]) (g := gName 1) (tt := tYes) rfl nd (pi_str (pv 0)) (blkOk_by (own := [("sign", 1)]) (N := Su.N_read_number) (sc := defScope s_read_number) (by decide +kernel)) (fun _ _ _ _ _ => (pg_name (i := 1) nd rfl (.inl rfl))) (fun _ _ _ _ _ => pts_nil) (fun _ _ _ _ _ => (pe_cmpR op_in_sign (pv 1) (pe_glob (v := .str "0123456789") (by rfl) T.m_FIGURES ⟨_, rfl⟩) rfl))) pa_nil)))))))
        (pss_one (ps_raise rfl (takes_of rfl rfl rfl rfl) (pmk_own0 PySem.F.excBase_ValueError T.x_NoDeed T.m_NoDeed T.kp_NoDeed (raises_own T.sb_NoDeed T.ty_NoDeed) (by rfl))))
        pss_nil)
      (pss_cons (ps_if (PW.pt (pw_and (pt_cmpR op_eq (pe_ix ix_str (pv 0) pe_int (fun _ _ => rfl)) pe_str (nomark _)) (pw_and1 (pt_cmpR op_ne (pv 0) pe_str (nomark _)))))
        (pss_one (ps_raise rfl (takes_of rfl rfl rfl rfl) (pmk_own0 PySem.F.excBase_ValueError T.x_NoDeed T.m_NoDeed T.kp_NoDeed (raises_own T.sb_NoDeed T.ty_NoDeed) (by rfl))))
        pss_nil)
      (pss_one (ps_ret (pe_callTy call_int_str (by rfl) T.m_int (by decide +kernel) (pa_cons (pv 0) pa_nil)))))), ?_⟩
    refine q_when (b := !digB z) (et_not (et_and (chain_le (a := 1) (b := z.length) (c := 12) ev_c (ev_cb (ea_cons (ev_var rfl) ea_nil) (rc_lenS (by omega))) ev_c) fun _ => et_B (ev_allSigns (fun c => decide (c ∈ figS.cps.toList)) (ev_var rfl) hz (fun _ => rfl) fun c Hb _ => ev_op (ev_var rfl) ev_c rv_inSign))) (fun hb H1 e1 => ?_) (fun hb H1 e1 => ?_)
    · refine qx ?_ H1 e1
      unfold numB
      cases h : digB z <;> rw [h] at hb <;> first | rfl | cases hb
    have hd : digB z = true := by cases h : digB z <;> rw [h] at hb <;> first | rfl | cases hb
    obtain ⟨l1, l2⟩ := digB_len hd
    obtain ⟨c, hc, hh⟩ := head_first l1
    have hzb : zeroB z = (decide (V.str ⟨#[c]⟩ = V.str (Str.ofString "0")) && !decide (V.str z = V.str (Str.ofString "0"))) := by
      unfold zeroB
      rw [hh, str_eq, str_eq]
      congr 1
      exact decide_eq_decide.mpr ⟨fun e => str_one.mpr (Option.some.inj e), fun e => congrArg some (str_one.mp e)⟩
    refine q_when (b := zeroB z) (hzb ▸ et_and (et_test (ev_op (ev_op (ev_var rfl) ev_c (rv_ixS (by omega) hc)) ev_c (rv_eq rfl))) fun _ => et_test (ev_op (ev_var rfl) ev_c (rv_ne rfl))) (fun hb2 H2 e2 => ?_) (fun hb2 H2 e2 => ?_)
    · exact qx (by unfold numB; rw [hd, hb2]; rfl) H2 (e1.trans e2)
    · exact s_ret (ev_cb (ea_cons (ev_var rfl) ea_nil) (rc_intS (digB_reads hd) (by omega))) fun H3 e3 => q (by unfold numB; rw [hd, hb2]; rfl) H3 ((e1.trans e2).trans e3)
def spReadWordsX (K : PySem.W.Frag) (fN : Addr) : Sp := fun vs H Q E => ∃ (a : Addr) (ws : List Str) (form : Str), vs = [.ref a, .str form] ∧ SqL K H a (ws.map V.str) ∧ (∀ z ∈ ws, z.length ≤ 40000) ∧ ws.length ≤ 40000 ∧ form.length ≤ 40000 ∧ (∀ c ∈ tl form, c = 110 ∨ c = 99) ∧
  (∀ ps, rdWords ws (tl form) = some ps → ∀ H' p, H p = none → Ex H H' → H' p = some (.tup (ps.map DW.v)) → Q (.ref p) H') ∧ (rdWords ws (tl form) = none → ∀ H', Ex H H' → E (.ref fN) none H')
theorem okx_read_words {f : Addr} {fd : FuncData} (F : Fun K "read_words" "read_words" s_read_words f fd) (T : Top K mg) : FnOk P w K mg base (L2.CX P w) 3 f fd ["words", "form"] (spReadWordsX K T.f_NoDeed) := by
  have nd := sc_read_words.nd
  have G_read_name : FnOk P w K mg base (L2.CX P w) 2 T.f_read_name T.fd_read_name ["word"] (spReadNameX T.f_NoDeed) := okx_read_name T.F_read_name T
  have G_read_number : FnOk P w K mg base (L2.CX P w) 1 T.f_read_number T.fd_read_number ["word"] (spReadNumX T.f_NoDeed) := okx_read_number T.F_read_number T
  refine F.okX sc_read_words (fun vs H Q E h => ?_) (fun cdv A outer s H vs Q E hr h => ?_)
  · obtain ⟨a, ws, form, rfl, _⟩ := h
    rfl
  · obtain ⟨a, ws, form, rfl, hS, hzs, hwl, hfl, hcs, q, qx⟩ := h
    have hft : (tl form).length = form.length := (len_tl form).symm
    refine ⟨_, (pss_cons (ps_if (pt_cmpR op_ne (pe_callB call_len_seq (by rfl) T.m_len PySem.boot_len (pa_cons (pv 0) pa_nil)) (pe_callB call_len_str (by rfl) T.m_len PySem.boot_len (pa_cons (pv 1) pa_nil)) (nomark _))
        (pss_one (ps_raise rfl (takes_of rfl rfl rfl rfl) (pmk_own0 PySem.F.excBase_ValueError T.x_NoDeed T.m_NoDeed T.kp_NoDeed (raises_own T.sb_NoDeed T.ty_NoDeed) (by rfl))))
        pss_nil)
      (pss_one (ps_ret (pe_callTy call_tuple_of (by rfl) T.m_tuple (by decide +kernel) (pa_cons (pe_lcX (own := [("word", 2), ("sign", 3)]) (g := gTup K 2 (gCons (gName 2) (gCons (gName 3) gNil))) (tt := tYes) rfl rfl (takes_of rfl rfl rfl rfl) rfl nd (pi_zipS (by rfl) T.m_zip (pa_cons (pv 0) (pa_cons (pv 1) pa_nil))) (blkOk_by (own := [("word", 2), ("sign", 3)]) (N := Su.N_read_words) (sc := defScope s_read_words) (by decide +kernel)) (fun _ _ _ _ _ => (pg_tup rfl (pgs_cons (pg_name (i := 2) nd rfl (.inl rfl)) (pgs_cons (pg_name (i := 3) nd rfl (.inl rfl)) pgs_nil)))) (fun _ _ _ _ _ => pts_nil) (fun _ _ _ _ _ _ hx => (pe_ifExp (pt_cmpR op_eq (pv 3) pe_str (nomark _)) (pe_call G_read_name (hr.mono (by omega)) (by rfl) T.m_read_name T.F_read_name.kp T.b_read_name .nil hx (pa_cons (pv 2) pa_nil)) (pe_call G_read_number (hr.mono (by omega)) (by rfl) T.m_read_number T.F_read_number.kp T.b_read_number .nil hx (pa_cons (pv 2) pa_nil))))) pa_nil))))), ?_⟩
    refine q_when (b := !decide (((ws.map V.str).length : Int) = (form.length : Int))) (et_is (et_test (ev_op (ev_len (ev_var rfl) hS) (ev_cb (ea_cons (ev_var rfl) ea_nil) (rc_lenS (by omega))) (rv_ne rfl))) (by rw [int_eq])) (fun hb H1 e1 => ?_) (fun hb H1 e1 => ?_)
    · refine qx ?_ H1 e1
      unfold rdWords
      rw [if_neg fun z => ?_]
      rw [List.length_map, decide_eq_true (by omega)] at hb
      cases hb
    have hlen : ws.length = form.length := by
      by_cases h : ws.length = form.length
      · exact h
      · rw [List.length_map, decide_eq_false (by omega)] at hb
        cases hb
    have hrd : rdWords ws (tl form) = rdAll ((tl form).zip ws) := by
      unfold rdWords
      rw [if_pos (by omega)]
    rw [hrd] at q qx
    have hS := ex_l e1 hS
    have gz : ∀ {i : Nat} {x : V} {c : Nat}, (ws.map V.str)[i]? = some x → form.cps[i]? = some c → ∃ z, x = .str z ∧ z.length ≤ 40000 ∧ (c = 110 ∨ c = 99) ∧ ((tl form).zip ws)[i]? = some (c, z) := fun {i x c} gx gc => by
      rw [List.getElem?_map] at gx
      obtain ⟨z, gw, rfl⟩ := Option.map_eq_some_iff.mp gx
      have gs : (tl form)[i]? = some c := by
        show form.cps.toList[i]? = some c
        rw [Array.getElem?_toList]
        exact gc
      exact ⟨z, rfl, hzs z (List.mem_of_getElem? gw), hcs c (List.mem_of_getElem? gs), by rw [List.getElem?_zip_eq_some]; exact ⟨gs, gw⟩⟩
    have hsz : (ws.map V.str).length = form.cps.size := by rw [List.length_map]; exact hlen
    -- an item that is good
    have good : ∀ {σ2 : L2.St} {Hb : Hp} {c : Nat} {z : Str} {p : DW} {E' : XK}, σ2[2]? = some (some (.str z)) → σ2[3]? = some (some (.str ⟨#[c]⟩)) → z.length ≤ 40000 → (c = 110 ∨ c = 99) → rdOne c z = some p →
        Ev (tIf (tTest (tOp rEq (tVar 3) (tC (.str "n")))) (tCall (spReadNameX T.f_NoDeed) [] E' (tCons (tVar 2) tNil)) (tCall (spReadNumX T.f_NoDeed) [] E' (tCons (tVar 2) tNil))) σ2 Hb p.v := fun {σ2 Hb c z p E'} s2 s3 hz hc hr => by
      rcases hc with rfl | rfl
      · unfold rdOne at hr
        rw [if_pos rfl] at hr
        by_cases hb : isNameB z = true
        · rw [if_pos hb] at hr
          obtain rfl := Option.some.inj hr
          exact ev_if (b := true) (et_is (et_test (ev_op (ev_var s3) ev_c (rv_eq rfl))) (by rw [str_eq]; exact decide_eq_true (show (⟨#[110]⟩ : Str) = _ by decide +kernel))) (fun _ => ev_call (ea_cons (ev_var s2) ea_nil) fun H3 e3 Q3 q3 _ => ⟨z, rfl, hz, fun _ => q3, fun h => by rw [hb] at h; cases h⟩) (fun h => by cases h)
        · rw [if_neg hb] at hr; cases hr
      · unfold rdOne at hr
        rw [if_neg (by decide), if_pos rfl] at hr
        by_cases hb : numB z = true
        · rw [if_pos hb] at hr
          obtain rfl := Option.some.inj hr
          exact ev_if (b := false) (et_is (et_test (ev_op (ev_var s3) ev_c (rv_eq rfl))) (by rw [str_eq]; exact decide_eq_false (show ¬ (⟨#[99]⟩ : Str) = _ by decide +kernel))) (fun h => by cases h) (fun _ => ev_call (ea_cons (ev_var s2) ea_nil) fun H3 e3 Q3 q3 _ => ⟨z, rfl, hz, fun _ => q3, fun h => by rw [hb] at h; cases h⟩)
        · rw [if_neg hb] at hr; cases hr
    cases hrd2 : rdAll ((tl form).zip ws) with
    | some ps =>
      obtain ⟨hpl, hpg⟩ := rdAll_get hrd2
      have hpl2 : ps.length = ws.length := by rw [hpl, List.length_zip]; omega
      refine s_retU (eu_tupOfL (K := K) (xs := ps.map DW.v) ?_) fun p H2 hp2 e2 h2 => q ps hrd2 H2 p (fresh_back e1 hp2) (e1.trans e2) h2
      have hg : ps.map DW.v = given (ws.map V.str).length (fun _ => true) (fun i => (ps.getD i (.no 0)).v) := by
        rw [given_all', List.length_map, ← hpl2]
        exact (range_mapV ps DW.v (.no 0)).symm
      rw [hg]
      refine el_lcZS _ _ (ea_cons (ev_var rfl) (ea_cons (ev_var rfl) ea_nil)) hS hsz (by rw [List.length_map]; exact hwl) fun i x c Tt Hb eb gx gc hT => ?_
      obtain ⟨z, rfl, hz, hc, gi⟩ := gz gx gc
      have hp := hpg i _ gi
      have hi : i < ps.length := by
        have := (List.getElem?_eq_some_iff.mp gi).1
        omega
      rw [List.getElem?_eq_getElem hi] at hp
      refine ⟨_, tg_two (.inl (.inl hT)) tg_name tg_name, rfl, et_yes, fun _ => ?_⟩
      rw [List.getD_eq_getElem?_getD, List.getElem?_eq_getElem hi]
      exact good rfl rfl hz hc hp
    | none =>
      obtain ⟨i0, ⟨c0, z0⟩, g0, hbad⟩ := rdAll_none hrd2
      have h0 : i0 < (ws.map V.str).length := by
        have := (List.getElem?_eq_some_iff.mp g0).1
        rw [List.length_zip] at this
        rw [List.length_map]
        omega
      refine s_retAny (lcZS_bad (K := K) (ta := tCons (tVar 0) (tCons (tVar 1) tNil)) (σ := [some (.ref a), some (.str form), none, none]) (H := H1) (ea_cons (ev_var rfl) (ea_cons (ev_var rfl) ea_nil)) hS hsz (by rw [List.length_map]; exact hwl) h0 (fun i x c Tt Hb eb gx gc hT => ?_))
      obtain ⟨z, rfl, hz, hc, gi⟩ := gz gx gc
      refine ⟨_, tg_two (.inl (.inl hT)) tg_name tg_name, rfl, ?_⟩
      have bad : rdOne c z = none → ∀ H2, Ex Hb H2 → ∀ Q : VK, (tIf (tTest (tOp rEq (tVar 3) (tC (.str "n")))) (tCall (spReadNameX T.f_NoDeed) [] E (tCons (tVar 2) tNil)) (tCall (spReadNumX T.f_NoDeed) [] E (tCons (tVar 2) tNil))) [some (.ref a), some (.str form), some (.str z), some (.str ⟨#[c]⟩)] H2 Q := fun hr H2 e2 Q2 => by
        have ee : ∀ {H3}, Ex H2 H3 → Ex H H3 := fun e => ((e1.trans eb).trans e2).trans e
        rcases hc with rfl | rfl
        · refine any_if (b := true) (et_is (et_test (ev_op (ev_var rfl) ev_c (rv_eq rfl))) (by rw [str_eq]; exact decide_eq_true (show (⟨#[110]⟩ : Str) = _ by decide +kernel))) (fun _ H3 e3 => any_call (ea_cons (ev_var rfl) ea_nil) fun H4 e4 Q4 => ⟨z, rfl, hz, fun hb => ?_, fun hb H5 e5 => qx hrd2 H5 (ee ((e3.trans e4).trans e5))⟩) (fun h => by cases h) Q2
          unfold rdOne at hr
          rw [if_pos rfl, if_pos hb] at hr
          cases hr
        · refine any_if (b := false) (et_is (et_test (ev_op (ev_var rfl) ev_c (rv_eq rfl))) (by rw [str_eq]; exact decide_eq_false (show ¬ (⟨#[99]⟩ : Str) = _ by decide +kernel))) (fun h => by cases h) (fun _ H3 e3 => any_call (ea_cons (ev_var rfl) ea_nil) fun H4 e4 Q4 => ⟨z, rfl, hz, fun hb => ?_, fun hb H5 e5 => qx hrd2 H5 (ee ((e3.trans e4).trans e5))⟩) Q2
          unfold rdOne at hr
          rw [if_neg (by decide), if_pos rfl, if_pos hb] at hr
          cases hr
      cases hr : rdOne c z with
      | some p => exact ⟨goes_ev (good rfl rfl hz hc hr), fun hi => by
          subst hi
          rw [g0] at gi
          cases gi
          rw [hbad] at hr
          cases hr⟩
      | none => exact ⟨fun H2 e2 Q2 _ => bad hr H2 e2 Q2, fun _ H2 e2 Q2 => bad hr H2 e2 Q2⟩
end

end Su
namespace Su
open TL
/-! ### found_of, deed_of, for any texts -/
theorem spl_len (S : List Nat) : ∀ (k : Nat) (acc l : List Nat), (1 ≤ (spl S k acc l).length ∧ (spl S k acc l).length ≤ l.length + 1) ∧ ∀ w ∈ spl S k acc l, w.length ≤ acc.length + l.length
  | k, acc, [] => by
    rw [spl_nil]
    exact ⟨⟨Nat.le_refl _, Nat.le_refl _⟩, fun w hw => by obtain rfl := List.mem_singleton.mp hw; exact Nat.le_refl _⟩
  | 0, acc, c :: r => by
    by_cases h : pre S (c :: r) = true
    · rw [spl_hit h]
      obtain ⟨⟨h1, h2⟩, h3⟩ := spl_len S (S.length - 1) [] r
      refine ⟨⟨by rw [List.length_cons]; omega, by rw [List.length_cons, List.length_cons]; omega⟩, fun w hw => ?_⟩
      rcases List.mem_cons.mp hw with rfl | hw
      · exact Nat.le_add_right _ _
      · have := h3 w hw
        rw [List.length_nil] at this
        rw [List.length_cons]
        omega
    · have e : spl S 0 acc (c :: r) = spl S 0 (acc ++ [c]) r := by
        show (if pre S (c :: r) = true then _ else _) = _
        rw [if_neg h]
      rw [e]
      obtain ⟨⟨h1, h2⟩, h3⟩ := spl_len S 0 (acc ++ [c]) r
      refine ⟨⟨h1, by rw [List.length_cons]; omega⟩, fun w hw => ?_⟩
      have := h3 w hw
      rw [List.length_append] at this
      rw [List.length_cons]
      have e1 : ([c] : List Nat).length = 1 := rfl
      omega
  | k + 1, acc, c :: r => by
    show (1 ≤ (spl S k acc r).length ∧ _) ∧ _
    obtain ⟨⟨h1, h2⟩, h3⟩ := spl_len S k acc r
    refine ⟨⟨h1, by show (spl S k acc r).length ≤ _; rw [List.length_cons]; omega⟩, fun w hw => ?_⟩
    have := h3 w hw
    rw [List.length_cons]
    omega
theorem split_len (x y : Str) (hy : tl y ≠ []) (hk : ¬ Builtin.Str.strKind x < Builtin.Str.strKind y) : (1 ≤ (Txt.split x y).length ∧ (Txt.split x y).length ≤ x.length + 1) ∧ ∀ w ∈ Txt.split x y, w.length ≤ x.length := by
  have e := split_spl x y hy hk
  obtain ⟨⟨h1, h2⟩, h3⟩ := spl_len (tl y) 0 [] (tl x)
  rw [← e, List.length_map] at h1 h2
  refine ⟨⟨h1, by rw [len_tl]; exact h2⟩, fun w hw => ?_⟩
  have := h3 (tl w) (e ▸ List.mem_map_of_mem hw)
  rw [len_tl, len_tl]
  simpa using this
theorem kind_all {y : Str} (h : y.cps.all (· < 256) = true) (x : Str) : ¬ Builtin.Str.strKind x < Builtin.Str.strKind y := by
  unfold Builtin.Str.strKind
  rw [if_pos h]
  split
  · decide
  · split <;> decide
theorem split_blank_len (x : Str) : (1 ≤ (Txt.split x (Str.ofString " ")).length ∧ (Txt.split x (Str.ofString " ")).length ≤ x.length + 1) ∧ ∀ w ∈ Txt.split x (Str.ofString " "), w.length ≤ x.length :=
  split_len x _ (by decide +kernel) (kind_all (by decide +kernel) x)
theorem eqV_str (a b : Str) : eqV (.str a) (.str b) = decide (b = a) := by
  by_cases h : b = a
  · subst h
    rw [decide_eq_true rfl]
    show (b == b) = true
    exact beq_self_eq_true b
  · rw [decide_eq_false h]
    show (a == b) = false
    exact beq_eq_false_iff_ne.mpr fun z => h z.symm
def optAll {α : Type} : List (Option α) → Option (List α)
  | [] => some []
  | o :: r => o.bind fun a => (optAll r).map fun b => a :: b
theorem optAll_some {α : Type} : ∀ {l : List (Option α)} {xs : List α}, optAll l = some xs → l = xs.map some
  | [], xs, h => by obtain rfl := Option.some.inj h; rfl
  | o :: r, xs, h => by
    have h : (o.bind fun a => (optAll r).map fun b => a :: b) = some xs := h
    obtain ⟨a, rfl, h⟩ := Option.bind_eq_some_iff.mp h
    obtain ⟨b, hb, rfl⟩ := Option.map_eq_some_iff.mp h
    rw [optAll_some hb]
    rfl
theorem optAll_none {α : Type} : ∀ {l : List (Option α)}, optAll l = none → ∃ i : Nat, l[i]? = some none
  | [], h => nomatch h
  | o :: r, h => by
    have h : (o.bind fun a => (optAll r).map fun b => a :: b) = none := h
    cases o with
    | none => exact ⟨0, rfl⟩
    | some a =>
      have h : (optAll r).map (fun b => a :: b) = none := h
      obtain ⟨i, hi⟩ := optAll_none (Option.map_eq_none_iff.mp h)
      exact ⟨i + 1, hi⟩
def chunkAt (ws : List Str) (i : Nat) : List Str := (ws.drop (4 + 3 * i)).take 3
def seatsN (ws : List Str) : Nat := (ws.length - 4 + 2) / 3
def seatsR (ws : List Str) : Option (List (List DW)) := optAll ((List.range (seatsN ws)).map fun i => rdWords (chunkAt ws i) [110, 99, 99])
def headOk (ws : List Str) : Bool := decide (7 ≤ ws.length) && (decide (ws[3]? = some plainS) || decide (ws[3]? = some bidsS))
def foundD (ws : List Str) (h : List DW) (rows : List (List DW)) : PyData := .tuple (.str foundS :: (h.map DW.d ++ [.bool (decide (ws[3]? = some bidsS)), .tuple (rows.map fun r => .tuple (r.map DW.d))]))
def foundR (ws : List Str) : Option PyData := if headOk ws = true then (rdWords ((ws.drop 1).take 2) [110, 99]).bind fun h => (seatsR ws).map fun rows => foundD ws h rows else none
def formOf (z : Str) : Option Str := (getD' formsKv z).bind fun v => match v with
  | .str f => some f
  | _ => none
def deedR (ws : List Str) : Option PyData := match ws[0]? with
  | none => none
  | some z => if z = foundS then foundR ws else (formOf z).bind fun f => (rdWords (ws.drop 1) (tl f)).map fun ps => .tuple (.str z :: ps.map DW.d)
theorem formOf_some {z f : Str} (h : formOf z = some f) : getD' formsKv z = some (.str f) ∧ f.length ≤ 3 ∧ ∀ c ∈ tl f, c = 110 ∨ c = 99 := by
  unfold formOf at h
  obtain ⟨v, hv, h⟩ := Option.bind_eq_some_iff.mp h
  cases v with
  | str g =>
    obtain rfl := Option.some.inj h
    refine ⟨hv, ?_⟩
    unfold getD' at hv
    obtain ⟨kv, hkv, e⟩ := Option.map_eq_some_iff.mp hv
    have hm := List.mem_of_find?_eq_some hkv
    have e1 : kv.2 = .str g := e
    have hall : ∀ kv ∈ formsKv, ∀ g, kv.2 = .str g → g.length ≤ 3 ∧ ∀ c ∈ tl g, c = 110 ∨ c = 99 := by
      simp only [formsKv, List.forall_mem_cons]
      have q : ∀ (s : Str) (P : Str → Prop), P s → ∀ g, V.str s = .str g → P g := fun s P hp g e => by cases e; exact hp
      have d : ∀ s : Str, (decide (s.length ≤ 3) && (tl s).all fun c => decide (c = 110) || decide (c = 99)) = true → s.length ≤ 3 ∧ ∀ c ∈ tl s, c = 110 ∨ c = 99 := fun s hs => by
        rw [Bool.and_eq_true, decide_eq_true_eq, List.all_eq_true] at hs
        exact ⟨hs.1, fun c hc => by simpa using hs.2 c hc⟩
      exact ⟨q _ (fun g => g.length ≤ 3 ∧ ∀ c ∈ tl g, c = 110 ∨ c = 99) (d _ (by decide +kernel)), q _ (fun g => g.length ≤ 3 ∧ ∀ c ∈ tl g, c = 110 ∨ c = 99) (d _ (by decide +kernel)), q _ (fun g => g.length ≤ 3 ∧ ∀ c ∈ tl g, c = 110 ∨ c = 99) (d _ (by decide +kernel)), q _ (fun g => g.length ≤ 3 ∧ ∀ c ∈ tl g, c = 110 ∨ c = 99) (d _ (by decide +kernel)), q _ (fun g => g.length ≤ 3 ∧ ∀ c ∈ tl g, c = 110 ∨ c = 99) (d _ (by decide +kernel)), q _ (fun g => g.length ≤ 3 ∧ ∀ c ∈ tl g, c = 110 ∨ c = 99) (d _ (by decide +kernel)), q _ (fun g => g.length ≤ 3 ∧ ∀ c ∈ tl g, c = 110 ∨ c = 99) (d _ (by decide +kernel)), q _ (fun g => g.length ≤ 3 ∧ ∀ c ∈ tl g, c = 110 ∨ c = 99) (d _ (by decide +kernel)), q _ (fun g => g.length ≤ 3 ∧ ∀ c ∈ tl g, c = 110 ∨ c = 99) (d _ (by decide +kernel)), fun _ h => nomatch h⟩
    exact hall kv hm g e1
  | _ => cases h
theorem formOf_none {z : Str} (h : formOf z = none) : getD' formsKv z = none := by
  unfold formOf at h
  cases hg : getD' formsKv z with
  | none => rfl
  | some v =>
    rw [hg] at h
    unfold getD' at hg
    obtain ⟨kv, hkv, e⟩ := Option.map_eq_some_iff.mp hg
    have hm := List.mem_of_find?_eq_some hkv
    have hall : ∀ kv ∈ formsKv, ∃ g, kv.2 = .str g := by
      simp only [formsKv, List.forall_mem_cons]
      exact ⟨⟨_, rfl⟩, ⟨_, rfl⟩, ⟨_, rfl⟩, ⟨_, rfl⟩, ⟨_, rfl⟩, ⟨_, rfl⟩, ⟨_, rfl⟩, ⟨_, rfl⟩, ⟨_, rfl⟩, fun _ h => nomatch h⟩
    obtain ⟨g, hg⟩ := hall kv hm
    have e1 : kv.2 = v := e
    rw [hg] at e1
    subst e1
    cases h
theorem rgc_any {m : Nat} {hi : Int} (hm : m ≤ 20000) (h : hi = ((4 + 3 * m : Nat) : Int) ∨ hi = ((4 + 3 * m : Nat) : Int) - 1 ∨ hi = ((4 + 3 * m : Nat) : Int) - 2) (h1 : 1 ≤ m) : RgC 4 hi 3 m := by
  have hr : Builtin.Range.rangeSize 4 hi 3 = m := by
    unfold Builtin.Range.rangeSize
    simp only [show (3 : Int) > 0 from by decide, if_true]
    split <;> omega
  refine ⟨by decide, by decide, ?_, hr⟩
  unfold Builtin.Range.small
  rw [hr, fits_ok (by omega) (by omega), fits_ok (by omega) (by omega), fits_ok (by omega) (by omega), fits_ok (by omega) (by omega), if_pos (by decide), fits_ok (by omega) (by omega), Bool.or_true]
  rfl
/-- [.. for at in range(lo, hi, c)] where an item refuses -/
theorem lcR3_bad {K : PySem.W.Frag} {σ : L2.St} {H : Hp} {te : TE} {g : TG} {ta : TA} {vs : List Nat} {lo hi c : Int} {n : Nat} (h : EvA ta σ H [.int lo, .int hi, .int c]) (hr : RgC lo hi c n) (hn : n ≤ 40000) {i0 : Nat} (h0 : i0 < n)
    (hs : ∀ i Hb, Ex H Hb → i < n → ∃ σ2, Tgt g (.int (lo + (i : Nat) * c)) (wipe σ vs) σ2 Hb ∧ wipe σ2 vs = wipe σ vs ∧ Goes te σ2 Hb ∧ (i = i0 → ∀ H2, Ex Hb H2 → ∀ Q, te σ2 H2 Q)) : ∀ Q, tLc (iRng3 ta) g tYes te vs σ H Q := fun Q => h H (Ex.refl _) _ fun H1 e1 => ⟨lo, hi, c, n, rfl, hr,
  lcw_bad walk_rangeC (fun i x => x = .int (lo + (i : Nat) * c)) (fun _ _ _ _ y => y) (fun _ _ => trivial) hn h0 fun i x Hb eb hi hx => by
    subst hx
    exact hs i Hb (e1.trans eb) hi⟩
theorem q_anyL {te : TE} {g : TG} {tz : TS} {σ : L2.St} {H : Hp} {D : Ends} (h : ∀ Q, te σ H Q) : tSeq (tAsg te g) tz D σ H := h _
theorem any_callL {sp : Sp} {dvs vs xs0 : List V} {E : XK} {te : TE} {tr : TA} {σ : L2.St} {H : Hp} (h1 : EvL te σ H xs0) (h2 : EvA tr σ H vs) (k : ∀ p0 H1, Ex H H1 → H1 p0 = some (.lst xs0) → ∀ Q, sp (.ref p0 :: vs ++ dvs) H1 Q E) : ∀ Q, tCall sp dvs E (tCons te tr) σ H Q := fun Q =>
  h1 H (Ex.refl _) _ fun p0 H1 _ e1 hp0 => h2 H1 e1 _ fun H2 e2 => k p0 H2 (e1.trans e2) (e2 _ _ hp0) Q
section
variable {P : Program} {w : World} {K : PySem.W.Frag} {mg : Str → Option Value} {base : Heap}
def WsOk (ws : List Str) : Prop := (∀ z ∈ ws, z.length ≤ 20000) ∧ ws.length ≤ 20001
def spFoundX (K : PySem.W.Frag) (fN : Addr) : Sp := fun vs H Q E => ∃ (a : Addr) (ws : List Str), vs = [.ref a] ∧ SqL K H a (ws.map V.str) ∧ WsOk ws ∧ (∀ d, foundR ws = some d → ∀ H' v, Ex H H' → Dp K H' v d → Q v H') ∧ (foundR ws = none → ∀ H', Ex H H' → E (.ref fN) none H')
theorem rdw_nc {ws : List Str} {h : List DW} (e : rdWords ws [110, 99] = some h) : ∃ z n, h = [.nm z, .no n] := by
  unfold rdWords at e
  split at e
  · rename_i hl
    match ws, hl with
    | [a, b], _ =>
      obtain ⟨x, y, hx, hy, rfl⟩ := rdAll_cons e
      obtain ⟨x2, y2, hx2, hy2, rfl⟩ := rdAll_cons hy
      obtain rfl := Option.some.inj hy2
      have hx : (if isNameB a = true then some (DW.nm a) else none) = some x := hx
      have hx2 : (if numB b = true then some (DW.no (valT b)) else none) = some x2 := hx2
      split at hx
      · split at hx2
        · obtain rfl := Option.some.inj hx
          obtain rfl := Option.some.inj hx2
          exact ⟨_, _, rfl⟩
        · cases hx2
      · cases hx
  · cases e
theorem okx_found_of {f : Addr} {fd : FuncData} (F : Fun K "found_of" "found_of" s_found_of f fd) (T : Top K mg) : FnOk P w K mg base (L2.CX P w) 4 f fd ["words"] (spFoundX K T.f_NoDeed) := by
  have nd := sc_found_of.nd
  have G_read_words : FnOk P w K mg base (L2.CX P w) 3 T.f_read_words T.fd_read_words ["words", "form"] (spReadWordsX K T.f_NoDeed) := okx_read_words T.F_read_words T
  refine F.okX sc_found_of (fun vs H Q E h => ?_) (fun cdv A outer s H vs Q E hr h => ?_)
  · obtain ⟨a, ws, rfl, _⟩ := h
    rfl
  · obtain ⟨a, ws, rfl, hS, ⟨hz, hl⟩, q, qx⟩ := h
    refine ⟨_, (pss_cons (ps_if (PW.pt (pw_or (pt_cmpR op_lt (pe_callB call_len_seq (by rfl) T.m_len PySem.boot_len (pa_cons (pv 0) pa_nil)) (pe_op op_add pe_int (pe_glob (v := .int 3) (by rfl) T.m_SEAT_WORDS ⟨_, rfl⟩)) (nomark _)) (pw_or1 (pt_cmpR op_notIn_seq (pe_ix ix_list (pv 0) pe_int (fun _ _ => rfl)) (pe_tup (pa_cons (pe_glob (v := .str "plain") (by rfl) T.m_PLAIN ⟨_, rfl⟩) (pa_cons (pe_glob (v := .str "bids") (by rfl) T.m_BIDS ⟨_, rfl⟩) pa_nil))) rfl))))
        (pss_one (ps_raise rfl (takes_of rfl rfl rfl rfl) (pmk_own0 PySem.F.excBase_ValueError T.x_NoDeed T.m_NoDeed T.kp_NoDeed (raises_own T.sb_NoDeed T.ty_NoDeed) (by rfl))))
        pss_nil)
      (pss_cons (ps_asg (pe_call G_read_words (hr.mono (by omega)) (by rfl) T.m_read_words T.F_read_words.kp T.b_read_words .nil (passes_call (takes_of rfl rfl rfl rfl) (fun _ _ _ _ h => h)) (pa_cons (pe_slice sl_list (pv 0) (po_some pe_int) (po_some pe_int)) (pa_cons pe_str pa_nil))) (pg_tup rfl (pgs_cons (pg_name (i := 1) nd rfl (.inl rfl)) (pgs_cons (pg_name (i := 2) nd rfl (.inl rfl)) pgs_nil))))
      (pss_cons (ps_setLcX (i := 3) (own := [("at", 4)]) (g := gName 4) (tt := tYes) rfl rfl (takes_of rfl rfl rfl rfl) rfl nd rfl rfl (sw_true rfl rfl rfl (by decide +kernel)) (pi_range3 rfl T.m_range (pa_cons pe_int (pa_cons (pe_callB call_len_seq (by rfl) T.m_len PySem.boot_len (pa_cons (pv 0) pa_nil)) (pa_cons (pe_glob (v := .int 3) (by rfl) T.m_SEAT_WORDS ⟨_, rfl⟩) pa_nil)))) (blkOk_by (own := [("at", 4)]) (N := Su.N_found_of) (sc := defScope s_found_of) (by decide +kernel)) (fun _ _ _ _ _ => (pg_name (i := 4) nd rfl (.inl rfl))) (fun _ _ _ _ _ => pts_nil) (fun _ _ _ _ _ _ hx => (pe_call G_read_words (hr.mono (by omega)) (by rfl) T.m_read_words T.F_read_words.kp T.b_read_words .nil hx (pa_cons (pe_slice (sl_listK (K := K) rfl) (pv 0) (po_some (pv 4)) (po_some (pe_op op_add (pv 4) (pe_glob (v := .int 3) (by rfl) T.m_SEAT_WORDS ⟨_, rfl⟩)))) (pa_cons pe_str pa_nil)))))
      (pss_one (ps_ret (pe_tup (pa_cons (pe_glob (v := .str "found") (by rfl) T.m_FOUND ⟨_, rfl⟩) (pa_cons (pv 1) (pa_cons (pv 2) (pa_cons (pe_cmpR op_eq (pe_ix ix_list (pv 0) pe_int (fun _ _ => rfl)) (pe_glob (v := .str "bids") (by rfl) T.m_BIDS ⟨_, rfl⟩) (nomark _)) (pa_cons (pe_callTy call_tuple_of (by rfl) T.m_tuple (by decide +kernel) (pa_cons (pv 3) pa_nil)) pa_nil))))))))))), ?_⟩
    have hlV : (ws.map V.str).length = ws.length := List.length_map ..
    refine q_when (b := !headOk ws) ?_ (fun hb H1 e1 => ?_) (fun hb H1 e1 => ?_)
    · by_cases h7 : 7 ≤ ws.length
      · have h3 : ws[3]? = some ws[3] := List.getElem?_eq_getElem (by omega)
        refine et_is (et_or (et_test (ev_op (ev_len (ev_var rfl) hS) (ev_op ev_c ev_c rv_I0) rv_I0)) fun _ => et_test (ev_niU (ev_op (ev_var rfl) ev_c (rv_ixL hS (nth_word h3))) (eu_tup (ea_cons ev_c (ea_cons ev_c ea_nil)) (by show 2 ≤ 100000; decide)) rfl rfl)) ?_
        rw [hlV, decide_eq_false (show ¬ ((ws.length : Int) < 4 + 3) by omega), Bool.false_or]
        unfold headOk
        rw [decide_eq_true h7, Bool.true_and, h3]
        have e1 : decide (some ws[3] = some plainS) = decide (ws[3] = plainS) := decide_eq_decide.mpr Option.some_inj
        have e2 : decide (some ws[3] = some bidsS) = decide (ws[3] = bidsS) := decide_eq_decide.mpr Option.some_inj
        rw [e1, e2]
        have e3 : inV (V.str ws[3]) [.str plainS, .str bidsS] = (decide (ws[3] = plainS) || decide (ws[3] = bidsS)) := by
          show (eqV (V.str plainS) (V.str ws[3]) || (eqV (V.str bidsS) (V.str ws[3]) || false)) = _
          rw [eqV_str, eqV_str, Bool.or_false]
        rw [e3]
      · have e : headOk ws = false := by
          unfold headOk
          rw [decide_eq_false h7]
          rfl
        rw [e]
        exact et_or (a := true) (b := false) (et_is (et_test (ev_op (ev_len (ev_var rfl) hS) (ev_op ev_c ev_c rv_I0) rv_I0)) (by rw [hlV]; exact decide_eq_true (by omega))) (fun h => by cases h)
    · refine qx ?_ H1 e1
      unfold foundR
      rw [if_neg fun z => by rw [z] at hb; cases hb]
    have hh : headOk ws = true := by cases h : headOk ws <;> rw [h] at hb <;> first | rfl | cases hb
    have hf : foundR ws = (rdWords ((ws.drop 1).take 2) [110, 99]).bind fun h => (seatsR ws).map fun rows => foundD ws h rows := by
      unfold foundR
      rw [if_pos hh]
    have h7 : 7 ≤ ws.length := by
      unfold headOk at hh
      rw [Bool.and_eq_true, decide_eq_true_eq] at hh
      exact hh.1
    have hS := ex_l e1 hS
    have hd12 : ((ws.map V.str).drop 1).take (3 - 1) = ((ws.drop 1).take 2).map V.str := by rw [← List.map_drop, ← List.map_take]
    have hc1 : ∀ z ∈ (ws.drop 1).take 2, z.length ≤ 40000 := fun z hz' => Nat.le_trans (hz z (List.mem_of_mem_drop (List.mem_of_mem_take hz'))) (by decide)
    have t1 : tl (Str.ofString "nc") = [110, 99] := by decide +kernel
    have t2 : tl (Str.ofString "ncc") = [110, 99, 99] := by decide +kernel
    cases hw : rdWords ((ws.drop 1).take 2) [110, 99] with
    | none =>
      have hn : foundR ws = none := by rw [hf, hw]; rfl
      refine (el_sl (ev_var rfl) (eo_some ev_c) (eo_some ev_c) hS : EvL _ _ _ _) H1 (Ex.refl _) _ fun p0 H2 hp0 e2 h2 => ?_
      rw [show (1 : Int) = ((1 : Nat) : Int) from rfl, show (3 : Int) = ((3 : Nat) : Int) from rfl, cut_mid _ _ _ (by decide), hd12] at h2
      refine (ea_cons ev_c ea_nil : EvA _ _ H2 [.str "nc"]) H2 (Ex.refl _) _ fun H3 e3 => ⟨p0, _, _, rfl, sq_of (e3 _ _ h2), hc1, by rw [List.length_take]; omega, by decide +kernel, by rw [t1]; simp, fun ps hps => ?_, fun _ H4 e4 => qx hn H4 (((e1.trans e2).trans e3).trans e4)⟩
      rw [t1, hw] at hps
      cases hps
    | some h =>
      obtain ⟨cn, stn, rfl⟩ := rdw_nc hw
      refine q_asgGU (xs := [.str cn, .int stn]) (eu_callL (el_sl (ev_var rfl) (eo_some ev_c) (eo_some ev_c) hS) (ea_cons ev_c ea_nil) fun p0 H2 e2 h2 => ?_) (fun p H2 e2 h2 => tg_two (st_of h2) tg_name tg_name) fun H2 e2 => ?_
      · rw [show (1 : Int) = ((1 : Nat) : Int) from rfl, show (3 : Int) = ((3 : Nat) : Int) from rfl, cut_mid _ _ _ (by decide), hd12] at h2
        exact fun H3 e3 Q3 q3 _ => ⟨p0, _, _, rfl, ex_l e3 (sq_of h2), hc1, by rw [List.length_take]; omega, by decide +kernel, by rw [t1]; simp, fun ps hps H4 p hp e4 h4 => by
          rw [t1, hw] at hps
          obtain rfl := Option.some.inj hps
          exact q3 p H4 hp e4 h4, fun hn => by rw [t1, hw] at hn; cases hn⟩
      have hS := ex_l e2 hS
      have e12 := e1.trans e2
      have hN : 1 ≤ seatsN ws := by unfold seatsN; omega
      have hN2 : seatsN ws ≤ 20000 := by unfold seatsN; omega
      have hrg : RgC 4 ((ws.map V.str).length : Int) 3 (seatsN ws) := rgc_any hN2 (by rw [hlV]; unfold seatsN; omega) hN
      have hcut : ∀ i : Nat, cutV (ws.map V.str) (some (4 + (i : Nat) * 3)) (some (4 + (i : Nat) * 3 + 3)) = (chunkAt ws i).map V.str := fun i => by
        rw [show (4 : Int) + (i : Nat) * 3 = ((4 + 3 * i : Nat) : Int) from by omega, show ((4 + 3 * i : Nat) : Int) + 3 = ((4 + 3 * i + 3 : Nat) : Int) from by omega, cut_mid _ _ _ (by omega), Nat.add_sub_cancel_left, ← List.map_drop, ← List.map_take]
        rfl
      have hcz : ∀ i, ∀ z ∈ chunkAt ws i, z.length ≤ 40000 := fun i z hz' => Nat.le_trans (hz z (List.mem_of_mem_drop (List.mem_of_mem_take hz'))) (by decide)
      have hcl : ∀ i, (chunkAt ws i).length ≤ 40000 := fun i => by unfold chunkAt; rw [List.length_take]; omega
      have item : ∀ {ps : List DW} {i : Nat} {E' : XK} {Hb : Hp} {σ2 : L2.St}, Ex H2 Hb → σ2[0]? = some (some (.ref a)) → σ2[4]? = some (some (.int (4 + (i : Nat) * 3))) → rdWords (chunkAt ws i) [110, 99, 99] = some ps →
          EvU (tCall (spReadWordsX K T.f_NoDeed) [] E' (tCons (tSl (rSlL K) (tVar 0) (tPart (tVar 4)) (tPart (tOp (rI0 fun i j => .int (i + j)) (tVar 4) (tC (.int 3))))) (tCons (tC (.str "ncc")) tNil))) σ2 Hb (ps.map DW.v) := fun {ps i E' Hb σ2} eb s0 s4 hps => by
        refine eu_callL (el_sl (ev_var s0) (eo_some (ev_var s4)) (eo_some (ev_op (ev_var s4) ev_c rv_I0)) (ex_l eb hS)) (ea_cons ev_c ea_nil) fun p0 H4 e4 h4 => ?_
        rw [hcut] at h4
        exact fun H5 e5 Q5 q5 _ => ⟨p0, _, _, rfl, ex_l e5 (sq_of h4), hcz i, hcl i, by decide +kernel, by rw [t2]; simp, fun ps' hps' H6 p hp e6 h6 => by
          rw [t2, hps] at hps'
          obtain rfl := Option.some.inj hps'
          exact q5 p H6 hp e6 h6, fun hn => by rw [t2, hps] at hn; cases hn⟩
      cases hr : seatsR ws with
      | none =>
        have hn : foundR ws = none := by
          rw [hf, hw]
          show (seatsR ws).map _ = none
          rw [hr]
          rfl
        obtain ⟨i0, hi0⟩ := optAll_none hr
        rw [List.getElem?_map] at hi0
        obtain ⟨j, hj, hbad⟩ := Option.map_eq_some_iff.mp hi0
        have hlt : i0 < seatsN ws := by
          have := (List.getElem?_eq_some_iff.mp hj).1
          rwa [List.length_range] at this
        rw [List.getElem?_range hlt] at hj
        obtain rfl := Option.some.inj hj
        refine q_anyL (lcR3_bad (K := K) (ta := tCons (tC (.int 4)) (tCons (tCB (fun xs H Q => ∃ p ys, xs = [V.ref p] ∧ (SqL K H p ys ∨ SqT K H p ys) ∧ Q (.int ys.length) H) (tCons (tVar 0) tNil)) (tCons (tC (.int 3)) tNil))) (σ := [some (.ref a), some (.str cn), some (.int stn), none, none]) (H := H2) (n := seatsN ws) (ea_cons ev_c (ea_cons (ev_len (ev_var rfl) hS) (ea_cons ev_c ea_nil))) hrg (by omega) hlt fun i Hb eb hi => ⟨_, tg_name, rfl, ?_⟩)
        have bad : rdWords (chunkAt ws i) [110, 99, 99] = none → ∀ Hc, Ex Hb Hc → ∀ Q, (tCall (spReadWordsX K T.f_NoDeed) [] E (tCons (tSl (rSlL K) (tVar 0) (tPart (tVar 4)) (tPart (tOp (rI0 fun i j => .int (i + j)) (tVar 4) (tC (.int 3))))) (tCons (tC (.str "ncc")) tNil))) [some (.ref a), some (.str cn), some (.int stn), none, some (.int (4 + (i : Nat) * 3))] Hc Q := fun hb Hc ec =>
          any_callL (el_sl (ev_var rfl) (eo_some (ev_var rfl)) (eo_some (ev_op (ev_var rfl) ev_c rv_I0)) (ex_l (eb.trans ec) hS)) (ea_cons ev_c ea_nil) fun p0 H4 e4 h4 Q4 => by
            rw [hcut] at h4
            exact ⟨p0, _, _, rfl, sq_of h4, hcz i, hcl i, by decide +kernel, by rw [t2]; simp, fun ps hps => (by rw [t2, hb] at hps; cases hps), fun _ H5 e5 => qx hn H5 (((e12.trans eb).trans ec).trans (e4.trans e5))⟩
        cases hc : rdWords (chunkAt ws i) [110, 99, 99] with
        | none => exact ⟨fun Hc ec Qc _ => bad hc Hc ec Qc, fun _ Hc ec Qc => bad hc Hc ec Qc⟩
        | some ps =>
          refine ⟨fun Hc ec Qc qc => ?_, fun hi => by subst hi; rw [hbad] at hc; cases hc⟩
          exact item (eb.trans ec) rfl rfl hc Hc (Ex.refl _) Qc fun p H4 _ e4 _ => qc _ H4 e4
      | some rows =>
        have ha := optAll_some hr
        have hrl : rows.length = seatsN ws := by
          have := congrArg List.length ha
          rw [List.length_map, List.length_map, List.length_range] at this
          exact this.symm
        have hri : ∀ i, i < seatsN ws → rdWords (chunkAt ws i) [110, 99, 99] = some (rows.getD i []) := fun i hi => by
          have := congrArg (fun l => l[i]?) ha
          simp only [List.getElem?_map, List.getElem?_range hi, Option.map_some] at this
          rw [List.getElem?_eq_getElem (by omega)] at this
          rw [List.getD_eq_getElem?_getD, List.getElem?_eq_getElem (by omega)]
          simpa using this
        have hfr : foundR ws = some (foundD ws [.nm cn, .no stn] rows) := by
          rw [hf, hw]
          show (seatsR ws).map _ = _
          rw [hr]
          rfl
        show tSeq _ _ _ _ _
        refine q_asgTs (rows := rows.map fun r => r.map DW.v) ?_ fun p ts H3 hp e3 h3' hT => ?_
        · rw [← range_map rows (fun r => r.map DW.v) [], hrl]
          exact ets_R3 (n := seatsN ws) _ (ea_cons ev_c (ea_cons (ev_len (ev_var rfl) hS) (ea_cons ev_c ea_nil))) hrg (by omega) (fun _ => rfl) fun i Hb eb hi => item eb rfl rfl (hri i hi)
        have hS := ex_l e3 hS
        have h3 : ws[3]? = some ws[3] := List.getElem?_eq_getElem (by omega)
        refine s_retD (K := K) (d := foundD ws [.nm cn, .no stn] rows) (evd_tup (evad_cons (evd_str ev_c) (evad_cons (evd_str (ev_var rfl)) (evad_cons (evd_int (ev_var rfl)) (evad_cons (evd_bl (ev_is (ev_op (ev_op (ev_var rfl) ev_c (rv_ixL hS (nth_word h3))) ev_c (rv_eq rfl)) ?_)) (evad_cons (evd_U (eu_tupOf (ev_var rfl) (sq_of h3')) ?_) evad_nil)))))) fun v H4 e4 hd => q _ hfr H4 v ((e12.trans e3).trans e4) hd
        · rw [str_eq, h3]
          congr 1
          exact decide_eq_decide.mpr Option.some_inj.symm
        · have hdd : (rows.map fun r => r.map DW.d).map PyData.tuple = rows.map fun r => PyData.tuple (r.map DW.d) := by rw [List.map_map]; rfl
          rw [← hdd]
          refine hT.dpa (by rw [List.length_map, List.length_map]) fun i r d hr' hd' => ?_
          rw [List.getElem?_map] at hr' hd'
          obtain ⟨s, hs, rfl⟩ := Option.map_eq_some_iff.mp hr'
          rw [hs] at hd'
          obtain rfl := Option.some.inj hd'
          exact dpa_dw s
def spDeedX (K : PySem.W.Frag) (fN : Addr) : Sp := fun vs H Q E => ∃ z : Str, vs = [.str z] ∧ z.length ≤ 20000 ∧ (∀ d, deedR (Txt.split z (Str.ofString " ")) = some d → ∀ H' v, Ex H H' → Dp K H' v d → Q v H') ∧ (deedR (Txt.split z (Str.ofString " ")) = none → ∀ H', Ex H H' → E (.ref fN) none H')
theorem okx_deed_of {f : Addr} {fd : FuncData} (F : Fun K "deed_of" "deed_of" s_deed_of f fd) (T : Top K mg) (DF_FORMS : ModD K w.params T.f_FORMS formsKv) : FnOk P w K mg base (L2.CX P w) 5 f fd ["text"] (spDeedX K T.f_NoDeed) := by
  have nd := sc_deed_of.nd
  have G_read_words : FnOk P w K mg base (L2.CX P w) 3 T.f_read_words T.fd_read_words ["words", "form"] (spReadWordsX K T.f_NoDeed) := okx_read_words T.F_read_words T
  have G_found_of : FnOk P w K mg base (L2.CX P w) 4 T.f_found_of T.fd_found_of ["words"] (spFoundX K T.f_NoDeed) := okx_found_of T.F_found_of T
  refine F.okX sc_deed_of (fun vs H Q E h => ?_) (fun cdv A outer s H vs Q E hr h => ?_)
  · obtain ⟨z, rfl, _⟩ := h
    rfl
  · obtain ⟨z, rfl, hz, q, qx⟩ := h
    obtain ⟨⟨w1, w2⟩, w3⟩ := split_blank_len z
    refine ⟨_, (pss_cons (ps_set (i := 1) nd rfl (.inl rfl) (pe_split (pv 0) pe_str))
      (pss_cons (ps_if (pt_cmpR op_eq (pe_ix ix_list (pv 1) pe_int (fun _ _ => rfl)) (pe_glob (v := .str "found") (by rfl) T.m_FOUND ⟨_, rfl⟩) (nomark _))
        (pss_one (ps_ret (pe_call G_found_of (hr.mono (by omega)) (by rfl) T.m_found_of T.F_found_of.kp T.b_found_of .nil (passes_call (takes_of rfl rfl rfl rfl) (fun _ _ _ _ h => h)) (pa_cons (pv 1) pa_nil))))
        pss_nil)
      (pss_cons (ps_if (pt_cmpR (op_notIn_md (K := K) rfl DF_FORMS) (pe_ix ix_list (pv 1) pe_int (fun _ _ => rfl)) (pe_glob (v := .ref T.f_FORMS) (by rfl) T.m_FORMS rfl) rfl)
        (pss_one (ps_raise rfl (takes_of rfl rfl rfl rfl) (pmk_own0 PySem.F.excBase_ValueError T.x_NoDeed T.m_NoDeed T.kp_NoDeed (raises_own T.sb_NoDeed T.ty_NoDeed) (by rfl))))
        pss_nil)
      (pss_one (ps_ret (pe_tup (pa_cons (pe_ix ix_list (pv 1) pe_int (fun _ _ => rfl)) (StX.pa_star (pe_call G_read_words (hr.mono (by omega)) (by rfl) T.m_read_words T.F_read_words.kp T.b_read_words .nil (passes_call (takes_of rfl rfl rfl rfl) (fun _ _ _ _ h => h)) (pa_cons (pe_slice sl_list (pv 1) (po_some pe_int) po_none) (pa_cons (pe_ix (ix_md (K := K) rfl DF_FORMS) (pe_glob (v := .ref T.f_FORMS) (by rfl) T.m_FORMS rfl) (pe_ix ix_list (pv 1) pe_int (fun _ _ => rfl)) (fun _ _ => rfl)) pa_nil))) pa_nil)))))))), ?_⟩
    refine q_asgL (el_split (ev_var rfl) ev_c (by decide +kernel) (by omega) rfl) fun a H1 ha e1 h1 => ?_
    generalize Txt.split z (Str.ofString " ") = ws at w1 w2 w3 h1 q qx
    have h0 : ws[0]? = some ws[0] := List.getElem?_eq_getElem (by omega)
    have hS : SqL K H1 a (ws.map V.str) := sq_of h1
    have hws : WsOk ws := ⟨fun x hx => Nat.le_trans (w3 x hx) hz, by omega⟩
    have hd : deedR ws = if ws[0] = foundS then foundR ws else (formOf ws[0]).bind fun f => (rdWords (ws.drop 1) (tl f)).map fun ps => .tuple (.str ws[0] :: ps.map DW.d) := by
      unfold deedR
      rw [h0]
    refine q_when (b := decide (ws[0] = foundS)) (et_is (et_test (ev_op (ev_op (ev_var rfl) ev_c (rv_ixL hS (nth_word h0))) ev_c (rv_eq rfl))) (by rw [str_eq])) (fun hb H2 e2 => ?_) (fun hb H2 e2 => ?_)
    · rw [if_pos (of_decide_eq_true hb)] at hd
      exact s_retCallA (ea_cons (ev_var rfl) ea_nil) fun H3 e3 => ⟨a, ws, rfl, ex_l (e2.trans e3) hS, hws, fun d h H4 v e4 hv => q d (hd.trans h) H4 v (((e1.trans e2).trans e3).trans e4) hv, fun h H4 e4 => qx (hd.trans h) H4 (((e1.trans e2).trans e3).trans e4)⟩
    rw [if_neg (of_decide_eq_false hb)] at hd
    have hS := ex_l e2 hS
    refine q_when (b := !(getD' formsKv ws[0]).isSome) (et_test (ev_op (ev_op (ev_var rfl) ev_c (rv_ixL hS (nth_word h0))) ev_c rv_niMd)) (fun hb H3 e3 => ?_) (fun hb H3 e3 => ?_)
    · have hn : formOf ws[0] = none := by
        unfold formOf
        cases hg : getD' formsKv ws[0] with
        | none => rfl
        | some v => rw [hg] at hb; cases hb
      refine qx ?_ H3 ((e1.trans e2).trans e3)
      rw [hd, hn]
      rfl
    cases hf : formOf ws[0] with
    | none => rw [formOf_none hf] at hb; cases hb
    | some form =>
      obtain ⟨hg, hfl, hfc⟩ := formOf_some hf
      rw [hf] at hd
      have hd : deedR ws = (rdWords (ws.drop 1) (tl form)).map fun ps => .tuple (.str ws[0] :: ps.map DW.d) := hd
      have hS := ex_l e3 hS
      have e13 := (e1.trans e2).trans e3
      have hdr : ∀ x ∈ ws.drop 1, x.length ≤ 40000 := fun x hx => Nat.le_trans (hws.1 x (List.mem_of_mem_drop hx)) (by decide)
      have hdl : (ws.drop 1).length ≤ 40000 := by rw [List.length_drop]; omega
      cases hw : rdWords (ws.drop 1) (tl form) with
      | none =>
        have hn : deedR ws = none := by rw [hd, hw]; rfl
        refine (ev_op (ev_var rfl) ev_c (rv_ixL hS (nth_word h0)) : Ev _ _ _ _) H3 (Ex.refl _) _ fun H4 e4 => ?_
        refine (el_sl (ev_var rfl) (eo_some ev_c) eo_none (ex_l e4 hS) : EvL _ _ _ _) H4 (Ex.refl _) _ fun p0 H5 hp0 e5 h5 => ?_
        rw [show (1 : Int) = ((1 : Nat) : Int) from rfl, cut_from, ← List.map_drop] at h5
        refine (ea_cons (ev_op ev_c (ev_op (ev_var rfl) ev_c (rv_ixL (ex_l (e4.trans e5) hS) (nth_word h0))) (rv_ixMd hg)) ea_nil : EvA _ _ _ _) H5 (Ex.refl _) _ fun H6 e6 => ⟨p0, _, form, rfl, sq_of (e6 _ _ h5), hdr, hdl, by omega, hfc, fun ps hps => ?_, fun _ H7 e7 => qx hn H7 ((((e13.trans e4).trans e5).trans e6).trans e7)⟩
        rw [hw] at hps
        cases hps
      | some ps =>
        have hs : deedR ws = some (.tuple (.str ws[0] :: ps.map DW.d)) := by rw [hd, hw]; rfl
        have hpl : ps.length ≤ 3 := by
          unfold rdWords at hw
          split at hw
          · rename_i hll
            have := (rdAll_get hw).1
            rw [List.length_zip, len_tl] at *
            omega
          · cases hw
        refine s_retU (eu_tup (vs := .str ws[0] :: ps.map DW.v) (ea_cons (ev_op (ev_var rfl) ev_c (rv_ixL hS (nth_word h0))) (ea_starU (eu_callL (el_sl (ev_var rfl) (eo_some ev_c) eo_none hS) (ea_cons (ev_op ev_c (ev_op (ev_var rfl) ev_c (rv_ixL hS (nth_word h0))) (rv_ixMd hg)) ea_nil) fun p0 H4 e4 h4 => ?_))) (by rw [List.length_cons, List.length_map]; omega)) fun p H4 hp4 e4 h4 => q _ hs H4 _ (e13.trans e4) (.tup (st_of h4) (.cons (.str _) (dpa_dw ps)))
        rw [show (1 : Int) = ((1 : Nat) : Int) from rfl, cut_from, ← List.map_drop] at h4
        exact fun H5 e5 Q5 q5 _ => ⟨p0, _, form, rfl, ex_l e5 (sq_of h4), hdr, hdl, by omega, hfc, fun ps' hps' H6 p' hp' e6 h6 => by
          rw [hw] at hps'
          obtain rfl := Option.some.inj hps'
          exact q5 p' H6 hp' e6 h6, fun hn => by rw [hw] at hn; cases hn⟩
end

end Su
namespace Su
open TL
/-! ### the law's drawn deeds (k38, k39) -/
theorem q_skip {t : TT} {tu tz : TS} {D : Ends} {σ : L2.St} {H : Hp} (h : EvT t σ H false) (k : ∀ H1, Ex H H1 → tz D σ H1) : tSeq (tIfS t tu tNext) tz D σ H := q_when h (fun hb => by cases hb) fun _ H1 e1 => k H1 e1
theorem q_take {t : TT} {tu tz : TS} {D : Ends} {σ : L2.St} {H : Hp} (h : EvT t σ H true) (k : ∀ H1, Ex H H1 → tu { D with nx := tz D } σ H1) : tSeq (tIfS t tu tNext) tz D σ H := q_when h (fun _ H1 e1 => k H1 e1) fun hb => by cases hb
theorem q_callN1 {sp : Sp} {dvs vs xs0 : List V} {E : XK} {te : TE} {tr : TA} {σ : L2.St} {H : Hp} {i : Nat} {D : Ends} {tz : TS} {P : List V → Prop} (h1 : EvL te σ H xs0) (h2 : EvA tr σ H vs) (hs : ∀ p0 H1, Ex H H1 → H1 p0 = some (.lst xs0) → SpN sp (.ref p0 :: vs ++ dvs) H1 P)
    (k : ∀ xs p H1, P xs → H p = none → Ex H H1 → H1 p = some (.lst xs) → tz D (σ.set i (some (.ref p))) H1) : tSeq (tAsg (tCall sp dvs E (tCons te tr)) (gName i)) tz D σ H := s_callN1 (D := { D with nx := tz D }) h1 h2 hs k
theorem q_callX {sp sp2 : Sp} {E E2 : XK} {ta : TA} {vs : List V} {σ : L2.St} {H : Hp} {i : Nat} {D : Ends} {tz : TS} (h : EvA ta σ H vs) (k : ∀ H1, Ex H H1 → sp2 vs H1 (fun x H2 => sp [x] H2 (fun v H3 => tz D (σ.set i (some v)) H3) E) E2) :
    tSeq (tAsg (tCall sp [] E (tCons (tCall sp2 [] E2 ta) tNil)) (gName i)) tz D σ H := h H (Ex.refl _) _ fun H1 e1 => by
  rw [List.append_nil]
  exact k H1 e1
section
variable {P : Program} {w : World} {K : PySem.W.Frag} {mg : Str → Option Value} {base : Heap}
theorem ev_joinV {to te : TE} {σ : L2.St} {H : Hp} {a : Str} {ys : List Str} {p : Addr} (h1 : Ev to σ H (.str a)) (h2 : Ev te σ H (.ref p)) (hs : SqL K H p (ys.map V.str)) (hz : (ys.map (·.length)).sum + ys.length * a.length ≤ 16777216) :
    Ev (tM1 (fun x xs H Q => ∃ a p, ∃ ys : List Str, x = .str a ∧ xs = [.ref p] ∧ (SqL K H p (ys.map V.str) ∨ SqT K H p (ys.map V.str)) ∧ (ys.map (·.length)).sum + ys.length * a.length ≤ 16777216 ∧ Q (.str (Txt.join a ys)) H) to te) σ H (.str (Txt.join a ys)) := fun H1 e Q q =>
  h1 H1 e _ fun H2 e2 => ⟨⟨a, rfl⟩, h2 H2 (e.trans e2) _ fun H3 e3 => ⟨a, p, ys, rfl, rfl, .inl (ex_l ((e.trans e2).trans e3) hs), hz, q H3 (e2.trans e3)⟩⟩
theorem NameOk.nameL {z : Str} (h : NameOk z) : NameL z := ⟨by rw [len_tl]; exact h.1, by rw [len_tl]; exact h.2.1, h.2.2⟩
def lawNum (r : Int) : Int := if r % 5 = 0 then 0 else if r % 5 = 1 then 999999999999 else if r % 5 = 2 then r % 10 else if r % 5 = 3 then r % 10 ^ 12 else r / 5 % 1000
theorem lawNum_ok (r : Int) : NumOk (lawNum r) := by
  unfold lawNum NumOk
  have a := Int.emod_nonneg r (show (10 : Int) ≠ 0 by decide)
  have b := Int.emod_lt_of_pos r (show (0 : Int) < 10 by decide)
  have c := Int.emod_nonneg r (show (10 ^ 12 : Int) ≠ 0 by decide)
  have d := Int.emod_lt_of_pos r (show (0 : Int) < 10 ^ 12 by decide)
  have e := Int.emod_nonneg (r / 5) (show (1000 : Int) ≠ 0 by decide)
  have f := Int.emod_lt_of_pos (r / 5) (show (0 : Int) < 1000 by decide)
  refine ⟨?_, ?_⟩ <;> (repeat' split) <;> omega
def spLawNum : Sp := fun vs H Q _ => ∃ r : Int, vs = [.int r] ∧ -(10 ^ 18) < r ∧ r < 10 ^ 18 ∧ ∀ H', Ex H H' → Q (.int (lawNum r)) H'
theorem spV_num {r : Int} {H : Hp} (h1 : -(10 ^ 18) < r) (h2 : r < 10 ^ 18) : SpV spLawNum [.int r] H (.int (lawNum r)) := fun H1 e Q q _ => ⟨r, rfl, h1, h2, q⟩
theorem ok__law_number {f : Addr} {fd : FuncData} (F : Fun K "_law_number" "_law_number" s__law_number f fd) (T : Top K mg) : FnOk P w K mg base CX0 1 f fd ["_law_raw"] spLawNum := by
  have nd := sc__law_number.nd
  refine F.ok sc__law_number (fun vs H Q E h => ?_) (fun cdv A outer s H vs Q E hr h => ?_)
  · obtain ⟨z, rfl, _⟩ := h
    rfl
  · obtain ⟨r, rfl, h1, h2, q⟩ := h
    refine ⟨_, (pss_one (ps_ret (pe_ix ix_list (pe_lst (pa_cons pe_int (pa_cons pe_int (pa_cons (pe_op op_mod (pv 0) pe_int) (pa_cons (pe_op op_mod (pv 0) (pe_op op_pow pe_int pe_int)) (pa_cons (pe_op op_mod (pe_op op_fdiv (pv 0) pe_int) pe_int) pa_nil)))))) (pe_op op_mod (pv 0) pe_int) (fun _ _ => rfl)))), ?_⟩
    refine s_ret (ev_ixN (xs := [.int 0, .int 999999999999, .int (r % 10), .int (r % 10 ^ 12), .int (r / 5 % 1000)]) (el_lst (by walk_at "ea") (by show 5 ≤ 100000; decide)) (by walk_at "ev") ?_) q
    have e := Int.emod_nonneg r (show (5 : Int) ≠ 0 by decide)
    have f := Int.emod_lt_of_pos r (show (0 : Int) < 5 by decide)
    have h5 : r % 5 = 0 ∨ r % 5 = 1 ∨ r % 5 = 2 ∨ r % 5 = 3 ∨ r % 5 = 4 := by omega
    unfold lawNum
    rcases h5 with h | h | h | h | h <;> rw [h] <;> rfl
def seatsOf : Deed → Nat
  | .simp _ _ => 0
  | .found _ _ _ s => s.length
def spLawDeed (K : PySem.W.Frag) : Sp := fun vs H Q _ => ∃ (a : Addr) (rows : List Int) (m : Nat), vs = [.ref a] ∧ SqL K H a (rows.map V.int) ∧ Rows m rows ∧ 66 ≤ m ∧ ∀ H' v d, Ex H H' → Dp K H' v (deedD d) → DeedOk d → seatsOf d ≤ 20 → Q v H'
theorem wsN {ws : List Str} (hok : ∀ z ∈ ws, NameOk z) {i : Nat} (hi : i < ws.length) : ∃ z, ws[i]? = some z ∧ NameL z := ⟨ws[i], List.getElem?_eq_getElem hi, (hok _ (List.getElem_mem hi)).nameL⟩
theorem nth_name {ws : List Str} {i : Nat} {z : Str} (h : ws[i]? = some z) : atI (ws.map V.str) (i : Int) = some (.str z) := atI_nat (by rw [List.getElem?_map, h]; rfl)
theorem ok__law_deed {f : Addr} {fd : FuncData} (F : Fun K "_law_deed" "_law_deed" s__law_deed f fd) (T : Top K mg) : FnOk P w K mg base CX0 2 f fd ["_law_some"] (spLawDeed K) := by
  have nd := sc__law_deed.nd
  have G__law_number : FnOk P w K mg base CX0 1 T.f__law_number T.fd__law_number ["_law_raw"] spLawNum := ok__law_number T.F__law_number T
  have G__law_names : FnOk P w K mg base CX0 1 T.f__law_names T.fd__law_names ["_law_some", "_law_many"] (spNames K) := ok__law_names T.F__law_names T
  refine F.ok sc__law_deed (fun vs H Q E h => ?_) (fun cdv A outer s H vs Q E hr h => ?_)
  · obtain ⟨a, rows, m, rfl, _⟩ := h
    rfl
  · obtain ⟨a, rows, m, rfl, hS, hR, hm, q⟩ := h
    have hRl : 66 ≤ rows.length := Nat.le_trans hm hR.1
    refine ⟨_, (pss_cons (ps_set (i := 1) nd rfl (.inl rfl) (pe_call G__law_names (hr.mono (by omega)) (by rfl) T.m__law_names T.F__law_names.kp T.b__law_names .nil pass0 (pa_cons (pe_slice sl_list (pv 0) (po_some pe_int) po_none) (pa_cons pe_int pa_nil))))
      (pss_cons (ps_set (i := 2) nd rfl (.inl rfl) (pe_ix ix_list (pe_lst (pa_cons pe_str (pa_cons pe_str (pa_cons pe_str (pa_cons pe_str (pa_cons pe_str (pa_cons pe_str (pa_cons pe_str (pa_cons pe_str (pa_cons pe_str (pa_cons pe_str pa_nil))))))))))) (pe_op op_mod (pe_ix ix_list (pv 0) pe_int (fun _ _ => rfl)) pe_int) (fun _ _ => rfl)))
      (pss_cons (ps_if (pt_cmpR op_in_seq (pv 2) (pe_tup (pa_cons pe_str (pa_cons pe_str (pa_cons pe_str pa_nil)))) rfl)
        (pss_one (ps_ret (pe_tup (pa_cons (pv 2) (pa_cons (pe_ix ix_list (pv 1) pe_int (fun _ _ => rfl)) pa_nil)))))
        pss_nil)
      (pss_cons (ps_if (pt_cmpR op_in_seq (pv 2) (pe_tup (pa_cons pe_str (pa_cons pe_str pa_nil))) rfl)
        (pss_one (ps_ret (pe_tup (pa_cons (pv 2) (pa_cons (pe_ix ix_list (pv 1) pe_int (fun _ _ => rfl)) (pa_cons (pe_call G__law_number (hr.mono (by omega)) (by rfl) T.m__law_number T.F__law_number.kp T.b__law_number .nil pass0 (pa_cons (pe_ix ix_list (pv 0) pe_int (fun _ _ => rfl)) pa_nil)) pa_nil))))))
        pss_nil)
      (pss_cons (ps_if (pt_cmpR op_eq (pv 2) pe_str (nomark _))
        (pss_one (ps_ret (pe_tup (pa_cons (pv 2) (pa_cons (pe_ix ix_list (pv 1) pe_int (fun _ _ => rfl)) (pa_cons (pe_ix ix_list (pv 1) pe_int (fun _ _ => rfl)) pa_nil))))))
        pss_nil)
      (pss_cons (ps_if (pt_cmpR op_eq (pv 2) pe_str (nomark _))
        (pss_one (ps_ret (pe_tup (pa_cons (pv 2) (pa_cons (pe_ix ix_list (pv 1) pe_int (fun _ _ => rfl)) (pa_cons (pe_ix ix_list (pv 1) pe_int (fun _ _ => rfl)) (pa_cons (pe_ix ix_list (pv 1) pe_int (fun _ _ => rfl)) pa_nil)))))))
        pss_nil)
      (pss_cons (ps_if (pt_cmpR op_in_seq (pv 2) (pe_tup (pa_cons pe_str (pa_cons pe_str pa_nil))) rfl)
        (pss_one (ps_ret (pe_tup (pa_cons (pv 2) (pa_cons (pe_ix ix_list (pv 1) pe_int (fun _ _ => rfl)) (pa_cons (pe_ix ix_list (pv 1) pe_int (fun _ _ => rfl)) (pa_cons (pe_call G__law_number (hr.mono (by omega)) (by rfl) T.m__law_number T.F__law_number.kp T.b__law_number .nil pass0 (pa_cons (pe_ix ix_list (pv 0) pe_int (fun _ _ => rfl)) pa_nil)) pa_nil)))))))
        pss_nil)
      (pss_cons (ps_set (i := 3) nd rfl (.inl rfl) (pe_lst pa_nil))
      (pss_cons (ps_for PassesOwn.never rfl (pi_range1 rfl T.m_range (pa_cons (pe_op op_add pe_int (pe_op op_mod (pe_ix ix_list (pv 0) pe_int (fun _ _ => rfl)) pe_int)) pa_nil)) (pg_name (i := 4) nd rfl (.inl rfl))
        (pss_one (ps_expr (pe_bm PySem.F.plainAttrs_list PySem.F.slot_list_append PySem.F.type_list_append mt_append (pv 3) (pa_cons (pe_tup (pa_cons (pe_ix ix_list (pv 1) (pe_op op_add pe_int (pv 4)) (fun _ _ => rfl)) (pa_cons (pe_call G__law_number (hr.mono (by omega)) (by rfl) T.m__law_number T.F__law_number.kp T.b__law_number .nil pass0 (pa_cons (pe_ix ix_list (pv 0) (pe_op op_add pe_int (pe_op op_mul pe_int (pv 4))) (fun _ _ => rfl)) pa_nil)) (pa_cons (pe_call G__law_number (hr.mono (by omega)) (by rfl) T.m__law_number T.F__law_number.kp T.b__law_number .nil pass0 (pa_cons (pe_ix ix_list (pv 0) (pe_op op_add pe_int (pe_op op_mul pe_int (pv 4))) (fun _ _ => rfl)) pa_nil)) pa_nil)))) pa_nil)))))
      (pss_one (ps_ret (pe_tup (pa_cons (pv 2) (pa_cons (pe_ix ix_list (pv 1) pe_int (fun _ _ => rfl)) (pa_cons (pe_call G__law_number (hr.mono (by omega)) (by rfl) T.m__law_number T.F__law_number.kp T.b__law_number .nil pass0 (pa_cons (pe_ix ix_list (pv 0) pe_int (fun _ _ => rfl)) pa_nil)) (pa_cons (pe_cmpR op_eq (pe_op op_mod (pe_ix ix_list (pv 0) pe_int (fun _ _ => rfl)) pe_int) pe_int (nomark _)) (pa_cons (pe_callTy call_tuple_of (by rfl) T.m_tuple (by decide +kernel) (pa_cons (pv 3) pa_nil)) pa_nil))))))))))))))))), ?_⟩
    refine q_callN1 (P := fun xs => ∃ ws : List Str, xs = ws.map V.str ∧ ws.length = 21 ∧ ws.Nodup ∧ ∀ z ∈ ws, NameOk z) (el_sl (by walk_at "ev") (eo_some (by walk_at "ev")) eo_none hS) (ea_cons ev_c ea_nil) (fun p0 H4 e4 h4 => ?_) ?_
    · rw [show (44 : Int) = ((44 : Nat) : Int) from rfl, cut_from, ← List.map_drop] at h4
      exact fun H5 e5 Q1 q1 E1 => ⟨p0, rows.drop 44, 21, rfl, sq_of (ex_g e5 h4), by rw [List.length_drop]; omega, by omega, fun x hx => hR.2.2 x (List.mem_of_mem_drop hx), fun ws H6 p1 hp1 e6 h6 hwl hnd hok => q1 _ p1 H6 ⟨ws, rfl, hwl, hnd, hok⟩ hp1 e6 h6⟩
    rintro _ pp H1 ⟨ws, rfl, hwl, -, hok⟩ hpp e1 h1
    have hS := ex_l e1 hS
    have hW := sq_of (K := K) h1
    obtain ⟨z0, g0, n0⟩ := wsN hok (i := 0) (by omega)
    obtain ⟨z1, g1, n1⟩ := wsN hok (i := 1) (by omega)
    obtain ⟨z2, g2, n2⟩ := wsN hok (i := 2) (by omega)
    have k0 := nth_name g0
    have k1 := nth_name g1
    have k2 := nth_name g2
    have r0 := hR.get 0
    have m0 := Int.emod_nonneg (rows.getD 0 0) (show (10 : Int) ≠ 0 by decide)
    have m1 := Int.emod_lt_of_pos (rows.getD 0 0) (show (0 : Int) < 10 by decide)
    have hv : ∃ v : Str, atI [V.str "enter", .str "part", .str "bring", .str "take", .str "found", .str "pay", .str "bid", .str "lay", .str "swap", .str "close"] (rows.getD (Int.toNat 0) 0 % 10) = some (.str v) ∧ (v = "enter" ∨ v = "part" ∨ v = "bring" ∨ v = "take" ∨ v = "found" ∨ v = "pay" ∨ v = "bid" ∨ v = "lay" ∨ v = "swap" ∨ v = "close") := by
      have h10 : rows.getD (Int.toNat 0) 0 % 10 = 0 ∨ rows.getD (Int.toNat 0) 0 % 10 = 1 ∨ rows.getD (Int.toNat 0) 0 % 10 = 2 ∨ rows.getD (Int.toNat 0) 0 % 10 = 3 ∨ rows.getD (Int.toNat 0) 0 % 10 = 4 ∨ rows.getD (Int.toNat 0) 0 % 10 = 5 ∨ rows.getD (Int.toNat 0) 0 % 10 = 6 ∨ rows.getD (Int.toNat 0) 0 % 10 = 7 ∨ rows.getD (Int.toNat 0) 0 % 10 = 8 ∨ rows.getD (Int.toNat 0) 0 % 10 = 9 := by
        change 0 ≤ rows.getD (Int.toNat 0) 0 % 10 at m0
        change rows.getD (Int.toNat 0) 0 % 10 < 10 at m1
        omega
      rcases h10 with h | h | h | h | h | h | h | h | h | h <;> rw [h] <;> refine ⟨_, rfl, ?_⟩ <;> simp
    obtain ⟨v, hv1, hv⟩ := hv
    refine q_asg (ev_ixN (el_lst (by walk_at "ea") (by show 10 ≤ 100000; decide)) (by walk_at "ev") hv1) fun H2 e2 => ?_
    clear hv1 m0 m1 r0
    have hS := ex_l e2 hS
    have hW := ex_l e2 hW
    have e12 := e1.trans e2
    have r2 := hR.get 2
    have x2 : atI (rows.map V.int) 2 = some (.int (rows.getD 2 0)) := at_rows (z := 2) (by decide) (by omega)
    have t3 : ∀ {b : Bool} {x y z : Str}, inV (.str v) [.str x, .str y, .str z] = b → EvT (tTest (tOp (rIn K false) (tVar 2) (tTup (tCons (tC (.str x)) (tCons (tC (.str y)) (tCons (tC (.str z)) tNil)))))) [some (.ref a), some (.ref pp), some (.str v), none, none] H2 b := fun h => et_test (ev_is (ev_inU (ev_var rfl) (eu_tup (by walk_at "ea") (by show 3 ≤ 100000; decide)) rfl rfl) (by rw [h]))
    have t2 : ∀ {b : Bool} {x y : Str}, inV (.str v) [.str x, .str y] = b → EvT (tTest (tOp (rIn K false) (tVar 2) (tTup (tCons (tC (.str x)) (tCons (tC (.str y)) tNil))))) [some (.ref a), some (.ref pp), some (.str v), none, none] H2 b := fun h => et_test (ev_is (ev_inU (ev_var rfl) (eu_tup (by walk_at "ea") (by show 2 ≤ 100000; decide)) rfl rfl) (by rw [h]))
    have t1 : ∀ {b : Bool} {x : Str}, decide (v = x) = b → EvT (tTest (tOp rEq (tVar 2) (tC (.str x)))) [some (.ref a), some (.ref pp), some (.str v), none, none] H2 b := fun h => et_is (et_test (ev_op (ev_var rfl) ev_c (rv_eq rfl))) (by rw [str_eq]; exact h)
    have u0 : ∀ {H3}, Ex H2 H3 → Ev (tOp (rIxL K) (tVar 1) (tC (.int 0))) [some (.ref a), some (.ref pp), some (.str v), none, none] H3 (.str z0) := fun e => ev_op (ev_var rfl) ev_c (rv_ixL (ex_l e hW) k0)
    have u1 : ∀ {H3}, Ex H2 H3 → Ev (tOp (rIxL K) (tVar 1) (tC (.int 1))) [some (.ref a), some (.ref pp), some (.str v), none, none] H3 (.str z1) := fun e => ev_op (ev_var rfl) ev_c (rv_ixL (ex_l e hW) k1)
    have u2 : ∀ {H3}, Ex H2 H3 → Ev (tOp (rIxL K) (tVar 1) (tC (.int 2))) [some (.ref a), some (.ref pp), some (.str v), none, none] H3 (.str z2) := fun e => ev_op (ev_var rfl) ev_c (rv_ixL (ex_l e hW) k2)
    have un : ∀ {H3}, Ex H2 H3 → Ev (tCall spLawNum [] E (tCons (tOp (rIxL K) (tVar 0) (tC (.int 2))) tNil)) [some (.ref a), some (.ref pp), some (.str v), none, none] H3 (.int (lawNum (rows.getD 2 0))) := fun e => ev_call (ea_cons (ev_op (ev_var rfl) ev_c (rv_ixL (ex_l e hS) x2)) ea_nil) (spV_num r2.1 r2.2)
    have no2 := lawNum_ok (rows.getD 2 0)
    have fin : ∀ {ps : List DW} {p : Addr} {H3 : Hp}, Ex H2 H3 → H3 p = some (.tup (.str v :: ps.map DW.v)) → DeedOk (.simp v ps) → Q (.ref p) H3 := fun {ps p H3} e h ho => q H3 _ (.simp v ps) (e12.trans e) (.tup (st_of h) (.cons (.str v) (dpa_dw ps))) ho (Nat.zero_le _)
    rcases hv with rfl | rfl | rfl | rfl | rfl | rfl | rfl | rfl | rfl | rfl
    · refine q_take (t3 (by decide +kernel)) fun H3 e3 => ?_
      exact s_retU (eu_tup (ea_cons (ev_var rfl) (ea_cons (u0 e3) ea_nil)) (by show 2 ≤ 100000; decide)) fun p H9 _ e9 h9 => fin (ps := [.nm z0]) (e3.trans e9) h9 ⟨⟨"n", rfl, by first | rfl | decide +kernel⟩, List.forall_mem_cons.mpr ⟨n0, fun x hx => nomatch hx⟩⟩
    · refine q_take (t3 (by decide +kernel)) fun H3 e3 => ?_
      exact s_retU (eu_tup (ea_cons (ev_var rfl) (ea_cons (u0 e3) ea_nil)) (by show 2 ≤ 100000; decide)) fun p H9 _ e9 h9 => fin (ps := [.nm z0]) (e3.trans e9) h9 ⟨⟨"n", rfl, by first | rfl | decide +kernel⟩, List.forall_mem_cons.mpr ⟨n0, fun x hx => nomatch hx⟩⟩
    · refine q_skip (t3 (by decide +kernel)) fun H3 e3 => ?_
      refine q_take (EvT.mono e3 (t2 (by decide +kernel))) fun H4 e4 => ?_
      exact s_retU (eu_tup (ea_cons (ev_var rfl) (ea_cons (u0 (e3.trans e4)) (ea_cons (un (e3.trans e4)) ea_nil))) (by show 3 ≤ 100000; decide)) fun p H9 _ e9 h9 => fin (ps := [.nm z0, .no (lawNum (rows.getD 2 0))]) ((e3.trans e4).trans e9) h9 ⟨⟨"nc", rfl, by first | rfl | decide +kernel⟩, List.forall_mem_cons.mpr ⟨n0, List.forall_mem_cons.mpr ⟨no2, fun x hx => nomatch hx⟩⟩⟩
    · refine q_skip (t3 (by decide +kernel)) fun H3 e3 => ?_
      refine q_take (EvT.mono e3 (t2 (by decide +kernel))) fun H4 e4 => ?_
      exact s_retU (eu_tup (ea_cons (ev_var rfl) (ea_cons (u0 (e3.trans e4)) (ea_cons (un (e3.trans e4)) ea_nil))) (by show 3 ≤ 100000; decide)) fun p H9 _ e9 h9 => fin (ps := [.nm z0, .no (lawNum (rows.getD 2 0))]) ((e3.trans e4).trans e9) h9 ⟨⟨"nc", rfl, by first | rfl | decide +kernel⟩, List.forall_mem_cons.mpr ⟨n0, List.forall_mem_cons.mpr ⟨no2, fun x hx => nomatch hx⟩⟩⟩
    · refine q_skip (t3 (by decide +kernel)) fun H3 e3 => ?_
      refine q_skip (EvT.mono e3 (t2 (by decide +kernel))) fun H4 e4 => ?_
      refine q_skip (EvT.mono (e3.trans e4) (t1 (by decide +kernel))) fun H5 e5 => ?_
      refine q_skip (EvT.mono ((e3.trans e4).trans e5) (t1 (by decide +kernel))) fun H6 e6 => ?_
      refine q_skip (EvT.mono (((e3.trans e4).trans e5).trans e6) (t2 (by decide +kernel))) fun H7 e7 => ?_
      have eH := (((e3.trans e4).trans e5).trans e6).trans e7
      have hS := ex_l eH hS
      have hW := ex_l eH hW
      have r1 := hR.get 1
      refine q_asgL (el_lst ea_nil (by decide)) fun p H8 hp e8 h8 => ?_
      have hS8 := ex_l e8 hS
      have hW8 := ex_l e8 hW
      have a0 := Int.emod_nonneg (rows.getD (Int.toNat 1) 0) (show (20 : Int) ≠ 0 by decide)
      have a1 := Int.emod_lt_of_pos (rows.getD (Int.toNat 1) 0) (show (0 : Int) < 20 by decide)
      refine q_forR1 (n := 1 + rows.getD (Int.toNat 1) 0 % 20) (by walk_at "ea") (by omega) (fun i σ' H' => ∃ (sx : List (Str × Int × Int)) (ts : List V) (y4 : Option V), σ' = [some (.ref a), some (.ref pp), some (.str foundS), some (.ref p), y4] ∧ Ex H7 H' ∧ H' p = some (.lst ts) ∧ TupsAt H' ts (sx.map seatV) ∧ sx.length = i ∧ ∀ q ∈ sx, NameL q.1 ∧ NumOk q.2.1 ∧ NumOk q.2.2) ?_ ?_ ?_
      · intro H9 e9
        exact ⟨[], [], none, rfl, e8.trans e9, e9 _ _ h8, ⟨rfl, fun i r h => nomatch h⟩, rfl, fun q h => nomatch h⟩
      · rintro i σ' H9 hi ⟨sx, ts, y4, rfl, ex9, h9, hT, hl, ho⟩
        have hi26 : i < 20 := by omega
        have hS9 := ex_l ex9 hS
        have hW9 := ex_l ex9 hW
        have hz : (1 + (i : Int)) < (ws.map V.str).length := by rw [List.length_map]; omega
        have hN := at_strs (z := 1 + (i : Int)) (by omega) hz
        have hM := (hok _ (getD_mem (z := 1 + (i : Int)) (by omega) hz)).nameL
        generalize ws.getD (1 + (i : Int)).toNat Str.empty = nm at hN hM
        have x1 : atI (rows.map V.int) (2 + 2 * (i : Int)) = some (.int (rows.getD (2 + 2 * (i : Int)).toNat 0)) := at_rows (by omega) (by omega)
        have x3 : atI (rows.map V.int) (3 + 2 * (i : Int)) = some (.int (rows.getD (3 + 2 * (i : Int)).toNat 0)) := at_rows (by omega) (by omega)
        have y1 := hR.get (2 + 2 * (i : Int)).toNat
        have y3 := hR.get (3 + 2 * (i : Int)).toNat
        generalize rows.getD (2 + 2 * (i : Int)).toNat 0 = p1 at x1 y1
        generalize rows.getD (3 + 2 * (i : Int)).toNat 0 = p2 at x3 y3
        have hx : ts.length < 100000 := by
          have := hT.1
          rw [List.length_map] at this
          omega
        refine s_appU (ys := seatV (nm, lawNum p1, lawNum p2)) h9 (ev_var rfl) (eu_tup (ea_cons (ev_op (ev_var rfl) (by walk_at "ev") (rv_ixL hW9 hN)) (ea_cons (ev_call (ea_cons (ev_op (ev_var rfl) (by walk_at "ev") (rv_ixL hS9 x1)) ea_nil) (spV_num y1.1 y1.2)) (ea_cons (ev_call (ea_cons (ev_op (ev_var rfl) (by walk_at "ev") (rv_ixL hS9 x3)) ea_nil) (spV_num y3.1 y3.2)) ea_nil))) (by show 3 ≤ 100000; decide)) hx fun tp H10 htp e10 h10 => ?_
        have h10' := e10 _ _ h9
        refine ⟨sx ++ [(nm, lawNum p1, lawNum p2)], _, _, rfl, ex_up (ex9.trans e10) (fresh_back (Ex.refl _) hp), upd_same, ?_, by rw [List.length_append, hl]; rfl, fun q hq => ?_⟩
        · rw [List.map_append]
          exact ((hT.ex e10).snoc h10).upd h10'
        · rcases List.mem_append.mp hq with hq | hq
          · exact ho q hq
          · obtain rfl := List.mem_singleton.mp hq
            exact ⟨hM, lawNum_ok p1, lawNum_ok p2⟩
      · rintro σ' H9 ⟨sx, ts, y4, rfl, ex9, h9, hT, hl, ho⟩
        have hS9 := ex_l ex9 hS
        have hW9 := ex_l ex9 hW
        have r42 := hR.get 42
        have x42 : atI (rows.map V.int) 42 = some (.int (rows.getD 42 0)) := at_rows (z := 42) (by decide) (by omega)
        have x43 : atI (rows.map V.int) 43 = some (.int (rows.getD 43 0)) := at_rows (z := 43) (by decide) (by omega)
        refine s_retD (K := K) (d := deedD (.found z0 (lawNum (rows.getD 42 0)) (decide (V.int (rows.getD 43 0 % 2) = V.int 1)) sx)) (evd_tup (evad_cons (evd_str (ev_var rfl)) (evad_cons (evd_str (ev_op (ev_var rfl) ev_c (rv_ixL hW9 k0))) (evad_cons (evd_int (ev_call (ea_cons (ev_op (ev_var rfl) ev_c (rv_ixL hS9 x42)) ea_nil) (spV_num r42.1 r42.2))) (evad_cons (evd_bl (ev_op (ev_op (ev_op (ev_var rfl) ev_c (rv_ixL hS9 x43)) ev_c (rv_mod (by decide))) ev_c (rv_eq rfl))) (evad_cons (evd_U (eu_tupOf (ev_var rfl) (sq_of h9)) ?_) evad_nil)))))) fun v H10 e10 hd => q H10 v _ (((e12.trans eH).trans ex9).trans e10) hd ⟨n0, lawNum_ok _, by omega, by omega, ho⟩ (show sx.length ≤ 20 by omega)
        have hdd : (sx.map fun s : Str × Int × Int => [PyData.str s.1, .int s.2.1, .int s.2.2]).map PyData.tuple = sx.map seatD := by rw [List.map_map]; rfl
        rw [← hdd]
        refine hT.dpa (by rw [List.length_map, List.length_map]) fun i r d hr hd' => ?_
        rw [List.getElem?_map] at hr hd'
        obtain ⟨s, hs, rfl⟩ := Option.map_eq_some_iff.mp hr
        rw [hs] at hd'
        obtain rfl := Option.some.inj hd'
        exact .cons (.str _) (.cons (.int _) (.cons (.int _) .nil))
    · refine q_skip (t3 (by decide +kernel)) fun H3 e3 => ?_
      refine q_skip (EvT.mono e3 (t2 (by decide +kernel))) fun H4 e4 => ?_
      refine q_take (EvT.mono (e3.trans e4) (t1 (by decide +kernel))) fun H5 e5 => ?_
      exact s_retU (eu_tup (ea_cons (ev_var rfl) (ea_cons (u0 ((e3.trans e4).trans e5)) (ea_cons (u1 ((e3.trans e4).trans e5)) ea_nil))) (by show 3 ≤ 100000; decide)) fun p H9 _ e9 h9 => fin (ps := [.nm z0, .nm z1]) (((e3.trans e4).trans e5).trans e9) h9 ⟨⟨"nn", rfl, by first | rfl | decide +kernel⟩, List.forall_mem_cons.mpr ⟨n0, List.forall_mem_cons.mpr ⟨n1, fun x hx => nomatch hx⟩⟩⟩
    · refine q_skip (t3 (by decide +kernel)) fun H3 e3 => ?_
      refine q_skip (EvT.mono e3 (t2 (by decide +kernel))) fun H4 e4 => ?_
      refine q_skip (EvT.mono (e3.trans e4) (t1 (by decide +kernel))) fun H5 e5 => ?_
      refine q_skip (EvT.mono ((e3.trans e4).trans e5) (t1 (by decide +kernel))) fun H6 e6 => ?_
      refine q_take (EvT.mono (((e3.trans e4).trans e5).trans e6) (t2 (by decide +kernel))) fun H7 e7 => ?_
      exact s_retU (eu_tup (ea_cons (ev_var rfl) (ea_cons (u0 ((((e3.trans e4).trans e5).trans e6).trans e7)) (ea_cons (u1 ((((e3.trans e4).trans e5).trans e6).trans e7)) (ea_cons (un ((((e3.trans e4).trans e5).trans e6).trans e7)) ea_nil)))) (by show 4 ≤ 100000; decide)) fun p H9 _ e9 h9 => fin (ps := [.nm z0, .nm z1, .no (lawNum (rows.getD 2 0))]) (((((e3.trans e4).trans e5).trans e6).trans e7).trans e9) h9 ⟨⟨"nnc", rfl, by first | rfl | decide +kernel⟩, List.forall_mem_cons.mpr ⟨n0, List.forall_mem_cons.mpr ⟨n1, List.forall_mem_cons.mpr ⟨no2, fun x hx => nomatch hx⟩⟩⟩⟩
    · refine q_skip (t3 (by decide +kernel)) fun H3 e3 => ?_
      refine q_skip (EvT.mono e3 (t2 (by decide +kernel))) fun H4 e4 => ?_
      refine q_skip (EvT.mono (e3.trans e4) (t1 (by decide +kernel))) fun H5 e5 => ?_
      refine q_skip (EvT.mono ((e3.trans e4).trans e5) (t1 (by decide +kernel))) fun H6 e6 => ?_
      refine q_take (EvT.mono (((e3.trans e4).trans e5).trans e6) (t2 (by decide +kernel))) fun H7 e7 => ?_
      exact s_retU (eu_tup (ea_cons (ev_var rfl) (ea_cons (u0 ((((e3.trans e4).trans e5).trans e6).trans e7)) (ea_cons (u1 ((((e3.trans e4).trans e5).trans e6).trans e7)) (ea_cons (un ((((e3.trans e4).trans e5).trans e6).trans e7)) ea_nil)))) (by show 4 ≤ 100000; decide)) fun p H9 _ e9 h9 => fin (ps := [.nm z0, .nm z1, .no (lawNum (rows.getD 2 0))]) (((((e3.trans e4).trans e5).trans e6).trans e7).trans e9) h9 ⟨⟨"nnc", rfl, by first | rfl | decide +kernel⟩, List.forall_mem_cons.mpr ⟨n0, List.forall_mem_cons.mpr ⟨n1, List.forall_mem_cons.mpr ⟨no2, fun x hx => nomatch hx⟩⟩⟩⟩
    · refine q_skip (t3 (by decide +kernel)) fun H3 e3 => ?_
      refine q_skip (EvT.mono e3 (t2 (by decide +kernel))) fun H4 e4 => ?_
      refine q_skip (EvT.mono (e3.trans e4) (t1 (by decide +kernel))) fun H5 e5 => ?_
      refine q_take (EvT.mono ((e3.trans e4).trans e5) (t1 (by decide +kernel))) fun H6 e6 => ?_
      exact s_retU (eu_tup (ea_cons (ev_var rfl) (ea_cons (u0 (((e3.trans e4).trans e5).trans e6)) (ea_cons (u1 (((e3.trans e4).trans e5).trans e6)) (ea_cons (u2 (((e3.trans e4).trans e5).trans e6)) ea_nil)))) (by show 4 ≤ 100000; decide)) fun p H9 _ e9 h9 => fin (ps := [.nm z0, .nm z1, .nm z2]) ((((e3.trans e4).trans e5).trans e6).trans e9) h9 ⟨⟨"nnn", rfl, by first | rfl | decide +kernel⟩, List.forall_mem_cons.mpr ⟨n0, List.forall_mem_cons.mpr ⟨n1, List.forall_mem_cons.mpr ⟨n2, fun x hx => nomatch hx⟩⟩⟩⟩
    · refine q_take (t3 (by decide +kernel)) fun H3 e3 => ?_
      exact s_retU (eu_tup (ea_cons (ev_var rfl) (ea_cons (u0 e3) ea_nil)) (by show 2 ≤ 100000; decide)) fun p H9 _ e9 h9 => fin (ps := [.nm z0]) (e3.trans e9) h9 ⟨⟨"n", rfl, by first | rfl | decide +kernel⟩, List.forall_mem_cons.mpr ⟨n0, fun x hx => nomatch hx⟩⟩
end

end Su
namespace Su
open TL
section
variable {P : Program} {w : World} {K : PySem.W.Frag} {mg : Str → Option Value} {base : Heap}
theorem ok__law_line {f : Addr} {fd : FuncData} (F : Fun K "_law_line" "_law_line" s__law_line f fd) (T : Top K mg) : FnOk P w K mg base CX0 1 f fd ["_law_deed_here"] (spDeedText K) := by
  have nd := sc__law_line.nd
  refine F.ok sc__law_line (fun vs H Q E h => ?_) (fun cdv A outer s H vs Q E hr h => ?_)
  · obtain ⟨v, d, rfl, _⟩ := h
    rfl
  · obtain ⟨v, d, rfl, hd, hok, q⟩ := h
    refine ⟨_, (pss_cons (ps_if (pt_cmpR op_ne (pe_ix ix_tup (pv 0) pe_int (fun _ _ => rfl)) pe_str (nomark _))
        (pss_one (ps_ret (pe_join pe_str (pe_lc (own := [("_law_part", 5)]) (g := gName 5) (tt := tYes) rfl nd (pi_seqA (pv 0)) (blkOk_by (own := [("_law_part", 5)]) (N := Su.N__law_line) (sc := defScope s__law_line) (by decide +kernel)) (fun _ _ _ _ _ => (pg_name (i := 5) nd rfl (.inl rfl))) (fun _ _ _ _ _ => pts_nil) (fun _ _ _ _ _ => (pe_callTy call_strA (by rfl) T.m_str (by decide +kernel) (pa_cons (pv 5) pa_nil)))))))
        pss_nil)
      (pss_cons (ps_set (i := 1) nd rfl (.inl rfl) (pe_lst (pa_cons pe_str (pa_cons (pe_ix ix_tup (pv 0) pe_int (fun _ _ => rfl)) (pa_cons (pe_callTy call_strA (by rfl) T.m_str (by decide +kernel) (pa_cons (pe_ix ix_tup (pv 0) pe_int (fun _ _ => rfl)) pa_nil)) (pa_cons (pe_ix ix_list (pe_lst (pa_cons pe_str (pa_cons pe_str pa_nil))) (pe_callTy call_int1 (by rfl) T.m_int (by decide +kernel) (pa_cons (pe_ix ix_tup (pv 0) pe_int (fun _ _ => rfl)) pa_nil)) (fun _ _ => rfl)) pa_nil))))))
      (pss_cons (ps_for PassesOwn.never rfl (pi_tup (pe_ix ix_tup (pv 0) pe_int (fun _ _ => rfl))) (pg_tup rfl (pgs_cons (pg_name (i := 2) nd rfl (.inl rfl)) (pgs_cons (pg_name (i := 3) nd rfl (.inl rfl)) (pgs_cons (pg_name (i := 4) nd rfl (.inl rfl)) pgs_nil))))
        (pss_one (ps_set (i := 1) nd rfl (.inl rfl) (pe_op op_cat (pv 1) (pe_lst (pa_cons (pv 2) (pa_cons (pe_callTy call_strA (by rfl) T.m_str (by decide +kernel) (pa_cons (pv 3) pa_nil)) (pa_cons (pe_callTy call_strA (by rfl) T.m_str (by decide +kernel) (pa_cons (pv 4) pa_nil)) pa_nil))))))))
      (pss_one (ps_ret (pe_join pe_str (pv 1))))))), ?_⟩
    cases d with
    | simp wd ps =>
      obtain ⟨a, rfl, hS⟩ := dp_simp hd
      obtain ⟨⟨form, hf, _⟩, _⟩ := id hok
      have h0 : atI ((deedP (.simp wd ps)).map DW.v) 0 = some (.str wd) := atI_nat (j := 0) rfl
      have hsm := simp_small hok
      refine q_take (et_is (et_test (ev_op (ev_op (ev_var rfl) ev_c (rv_ixT hS h0)) ev_c (rv_ne rfl))) (by rw [str_eq, decide_eq_false (forms_word hf).2.2.1]; rfl)) fun H1 e1 => ?_
      exact s_ret (ev_join (ys := (deedP (.simp wd ps)).map DW.txt) ev_c (el_strs (ev_var rfl) (.inr (ex_t e1 hS)) (by have := hsm.2; omega) (fun _ => rfl) (fun _ => rfl) hsm.1) (join_small hsm.1 (by have := hsm.2; omega))) fun H2 e2 => q H2 (e1.trans e2)
    | found c st b seats =>
      obtain ⟨a, qa, ts, rfl, hS, hq, hqd⟩ := dp_found hd
      have hsm := found_small hok
      obtain ⟨hc, hs, l1, l2, hqs⟩ := id hok
      refine q_skip (et_is (et_test (ev_op (ev_op (ev_var rfl) ev_c (rv_ixT hS (atI_nat (j := 0) rfl))) ev_c (rv_ne rfl))) (by rw [decide_eq_true rfl]; rfl)) fun H1 e1 => ?_
      have hS1 := ex_t e1 hS
      have g1 : atI [V.str foundS, .str c, .int st, .bl b, .ref qa] 1 = some (.str c) := atI_nat (j := 1) rfl
      have g2 : atI [V.str foundS, .str c, .int st, .bl b, .ref qa] 2 = some (.int st) := atI_nat (j := 2) rfl
      have g3 : atI [V.str foundS, .str c, .int st, .bl b, .ref qa] 3 = some (.bl b) := atI_nat (j := 3) rfl
      have g4 : atI [V.str foundS, .str c, .int st, .bl b, .ref qa] 4 = some (.ref qa) := atI_nat (j := 4) rfl
      have hst := DW.ok_small (p := .no st) hs
      refine q_asgL (el_lst (vs := [.str foundS, .str c, .str (numT st), .str (if b then bidsS else plainS)]) (ea_cons ev_c (ea_cons (ev_op (ev_var rfl) ev_c (rv_ixT hS1 g1)) (ea_cons (ev_cb (ea_cons (ev_op (ev_var rfl) ev_c (rv_ixT hS1 g2)) ea_nil) (rc_strP (p := .no st) hst)) (ea_cons (ev_ixN (xs := [.str plainS, .str bidsS]) (z := if b = true then 1 else 0) (el_lst (ea_cons ev_c (ea_cons ev_c ea_nil)) (by show 2 ≤ 100000; decide)) (ev_cb (ea_cons (ev_op (ev_var rfl) ev_c (rv_ixT hS1 g3)) ea_nil) rc_intB) (by cases b <;> rfl)) ea_nil)))) (by show 4 ≤ 100000; decide)) fun p H2 hp e2 h2 => ?_
      have e12 := e1.trans e2
      have hfl := seats_flat (dpa_ex e12 hqd)
      refine q_forT (ev_op (ev_var rfl) ev_c (rv_ixT (ex_t e12 hS) g4)) (ex_t e12 hq) (fun i σ' H' => ∃ (p' : Addr) (y2 y3 y4 : Option V), σ' = [some (.ref a), some (.ref p'), y2, y3, y4, none] ∧ Ex H2 H' ∧ H' p' = some (.lst (((([DW.nm foundS, .nm c, .no st, .nm (if b then bidsS else plainS)] ++ ((seats.take i).map seatP).flatten)).map DW.txt).map V.str))) ?_ ?_ ?_ ?_
      · intro H3 e3
        exact ⟨p, none, none, none, rfl, e3, e3 _ _ h2⟩
      · rintro i σ' H3 _ ⟨p', y2, y3, y4, rfl, ex3, _⟩
        exact ex_t (e12.trans ex3) hq
      · rintro i x σ' H3 hx ⟨p', y2, y3, y4, rfl, ex3, h3⟩
        have hi : i < seats.length := by rw [← hfl.1]; exact (List.getElem?_eq_some_iff.mp hx).1
        have gq : seats[i]? = some seats[i] := List.getElem?_eq_getElem hi
        obtain ⟨tb, rfl, hb⟩ := hfl.2 i x _ hx gq
        obtain ⟨q1, q2, q3⟩ := hqs _ (List.mem_of_getElem? gq)
        generalize seats[i] = sq at gq hb q1 q2 q3
        have c2 := DW.ok_small (p := .no sq.2.1) q2
        have c3 := DW.ok_small (p := .no sq.2.2) q3
        refine tg_three (ex_t ex3 hb) tg_name tg_name tg_name H3 (Ex.refl _) _ ?_
        have hlen : ((((([DW.nm foundS, .nm c, .no st, .nm (if b then bidsS else plainS)] ++ ((seats.take i).map seatP).flatten)).map DW.txt).map V.str)).length ≤ 3004 := by
          rw [List.length_map, List.length_map, List.length_append, List.length_flatten, List.map_map]
          have : (List.length ∘ seatP) = fun _ => 3 := rfl
          rw [this, List.map_const', List.sum_replicate_nat, List.length_take]
          show 4 + _ ≤ _
          omega
        refine s_asgL (el_catR (ev_var rfl) h3 (el_lst (vs := [.str sq.1, .str (numT sq.2.1), .str (numT sq.2.2)]) (ea_cons (ev_var rfl) (ea_cons (ev_cb (ea_cons (ev_var rfl) ea_nil) (rc_strP (p := .no sq.2.1) c2)) (ea_cons (ev_cb (ea_cons (ev_var rfl) ea_nil) (rc_strP (p := .no sq.2.2) c3)) ea_nil))) (by show 3 ≤ 100000; decide)) (by show _ + 3 ≤ 100000; omega)) fun p4 H4 hp4 e4 h4 => ?_
        refine ⟨p4, _, _, _, rfl, ex3.trans e4, ?_⟩
        rw [h4, List.take_succ, gq]
        simp only [List.map_append, List.flatten_append, List.append_assoc]
        rfl
      · rintro σ' H3 ⟨p', y2, y3, y4, rfl, ex3, h3⟩
        rw [hfl.1, List.take_length] at h3
        exact s_ret (ev_joinV (ys := (deedP (.found c st b seats)).map DW.txt) ev_c (ev_var rfl) (sq_of h3) (join_small hsm.1 (by have := hsm.2; omega))) fun H4 e4 => q H4 ((e12.trans ex3).trans e4)
end

end Su
namespace Su
/-! ### zip(a text, a list): as zip(a list, a text) -/
section
open Evl
def ItzT (K : PySem.W.Frag) (a : Addr) (z0 : Str) : It :=
  ⟨fun i H => ∃ (xs : List V) (x : V) (c : Nat), SqL K H a xs ∧ xs[i]? = some x ∧ z0.cps[i]? = some c,
    fun i H v H' => ∃ T x c, v = .ref T ∧ H T = none ∧ H' = upd H T (.tup [.str ⟨#[c]⟩, x]) ∧ (∀ xs, SqL K H a xs → xs[i]? = some x) ∧ z0.cps[i]? = some c,
    fun i H => ∃ xs : List V, SqL K H a xs ∧ i = xs.length ∧ xs.length = z0.cps.size⟩
/-- the five cells of such a zip at its turn -/
def ZipT (tk : Tok) (z0 : Str) (z TI TO i1 i2 a : Addr) (i : Nat) (h : Heap) : Prop :=
  IsZip h z TI TO .none ∧ IsTupOf2 h TI (.ref i1) (.ref i2) ∧ (∃ x y, IsTupOf2 h TO x y) ∧ h.IsStrIter i1 (strIterType z0) z0 tk i ∧ h.IsListIter i2 a i
abbrev zipCellsT (z TI TO i1 i2 : Addr) : List Addr := [z, TI, TO, i1, i2]
theorem wr_cellsT {z TI TO i1 i2 b : Addr} (n : b ∉ zipCellsT z TI TO i1 i2) : b ∉ [z, TO, i1, i2] := fun hm => n (by
  simp only [zipCellsT, List.mem_cons, List.not_mem_nil, or_false] at hm ⊢
  rcases hm with e | e | e | e <;> simp [e])
theorem turn_zipT {P : Program} {w : World} {K : PySem.W.Frag} {elts : List Expr} {kk : Nat} {tpos : Pos} {a z TI TO i1 i2 : Addr} {z0 : Str} {tk : Tok} (D : ZipSep2 z TI TO i1 i2 [i1] [i2, a]) (ne1 : a ≠ i1) (neT : a ≠ TO) (nei : a ≠ i2) (nez : a ≠ z) :
    Turn P w K (.Tuple elts kk tpos) (ItzT K a z0) (zipCellsT z TI TO i1 i2) z (ZipT tk z0 z TI TO i1 i2 a) := by
  have naw : a ∉ [z, TO, i1, i2] := by simp [nez, neT, ne1, nei]
  have live : ∀ i h, ZipT tk z0 z TI TO i1 i2 a i h → ∀ c ∈ zipCellsT z TI TO i1 i2, ∃ o : Obj, h.get? c = some o ∧ ∀ v, o.data ≠ .cell v := fun i h hs => by
    obtain ⟨s1, s2, ⟨_, _, s3⟩, ⟨_, s4, _, k4⟩, ⟨_, s5, _, k5⟩⟩ := hs
    simp only [zipCellsT, List.forall_mem_cons]
    exact ⟨⟨_, s1, nofun⟩, ⟨_, s2, nofun⟩, ⟨_, s3, nofun⟩, ⟨_, s4, fun v e => by rw [k4] at e; cases e⟩, ⟨_, s5, fun v e => by rw [k5] at e; cases e⟩, fun _ hc => nomatch hc⟩
  refine ⟨List.mem_cons_self, live, fun i h h' hs keep => ?_, ?_, ?_, fun A i s Q E hs q => wpAny_pyIter_zip hs.1 q⟩
  · have kp : ∀ c ∈ zipCellsT z TI TO i1 i2, ∀ o, h.get? c = some o → h'.get? c = some o := keep
    simp only [zipCellsT, List.forall_mem_cons] at kp
    obtain ⟨s1, s2, ⟨x, y, s3⟩, ⟨o4, s4, r4⟩, s5⟩ := hs
    exact ⟨kp.1 _ s1, kp.2.1 _ s2, ⟨x, y, kp.2.2.1 _ s3⟩, ⟨o4, kp.2.2.2.1 _ s4, r4⟩, s5.at kp.2.2.2.2.1⟩
  · rintro X rfl rfl rfl calm i pins s σ H E Iv free ⟨s1, s2, s3, s4, s5⟩ ⟨xs, x, c, hq, hx, hc⟩
    obtain ⟨vs, rel, isl, -⟩ := Iv.list hq
    obtain ⟨u, hu, rx⟩ := rel.get hx
    have W := WalksT.zipD2 D (Draws.text (prog := X.prog) (w := X.w) (A := X.A.in1) (Iv.ok.hd calm) i1 z0 tk) (Draws.list (prog := X.prog) (w := X.w) (A := X.A.in1) (Iv.ok.hd calm) i2 a nei vs.toArray)
    have b1 : i < vs.toArray.size := by have := (List.getElem?_eq_some_iff.mp hu).1; simpa using this
    have b2 : i < z0.cps.size := (Array.getElem?_eq_some_iff.mp hc).1
    refine W.item i s _ _ (Nat.lt_min.mpr ⟨b2, b1⟩) ⟨s1, s2, s3, s4, ⟨s5, isl.isList⟩⟩ fun T vals h1 tk1 hv newT isT mid kp1 => ?_
    obtain ⟨v2, v1, ⟨c', t2, hc', rfl⟩, hv1, rfl⟩ := hv
    rw [show (vs.toArray)[i]? = some u from by simpa using hu] at hv1
    rw [hc] at hc'
    cases hv1
    cases hc'
    refine ⟨_, rfl, W.go elts kk tpos i T _ _ _ mid fun h2 st2 kp2 => ?_⟩
    have apT := W.apart i T h1 mid
    obtain ⟨oT, gT, cT, nT, dT⟩ := isT
    have both : ∀ b o, b ∉ zipCellsT z TI TO i1 i2 → s.heap.get? b = some o → h2.get? b = some o := fun b o nb e => kp2 b o (wr_cellsT nb) (kp1 b o (wr_cellsT nb) e)
    refine ⟨.ref T, upd H T (.tup [.str ⟨#[c]⟩, x]), Iv.turnedNew both free newT ⟨by show 2 ≤ sizeLine; decide, [.str ⟨#[c]⟩ t2, u], .cons ⟨t2, rfl⟩ (.cons rx .nil), oT, kp2 T _ apT gT, cT, nT, dT⟩, rfl,
      ⟨T, x, c, rfl, Iv.hok.fresh newT, rfl, fun ys hy => Iv.list_inj hy hq ▸ hx, hc⟩, ⟨st2.1, st2.2.1, st2.2.2.1, st2.2.2.2.1, st2.2.2.2.2.1⟩, fun b hb => ?_⟩
    have bT : b ≠ T := by
      obtain ⟨o, ho, _⟩ := live i s.heap ⟨s1, s2, s3, s4, s5⟩ b hb
      exact Nat.ne_of_lt (Nat.lt_of_lt_of_le (Heap.lt_size ho) newT)
    exact (upd_ne bT).trans (free b hb).1
  · rintro X rfl rfl rfl calm i pins s σ H E Iv free ⟨s1, s2, s3, s4, s5⟩ ⟨xs, hq, rfl, hl⟩
    obtain ⟨vs, rel, isl, -⟩ := Iv.list hq
    have W := WalksT.zipD2 D (Draws.text (prog := X.prog) (w := X.w) (A := X.A.in1) (Iv.ok.hd calm) i1 z0 tk) (Draws.list (prog := X.prog) (w := X.w) (A := X.A.in1) (Iv.ok.hd calm) i2 a nei vs.toArray)
    have len := rel.length
    have hmin : min z0.cps.size vs.toArray.size = xs.length := by
      rw [← hl, List.size_toArray, ← len]
      exact Nat.min_self _
    have st : _ := (⟨s1, s2, s3, s4, ⟨s5, isl.isList⟩⟩ : IsZip s.heap z TI TO .none ∧ IsTupOf2 s.heap TI (.ref i1) (.ref i2) ∧ (∃ x y, IsTupOf2 s.heap TO x y) ∧ s.heap.IsStrIter i1 (strIterType z0) z0 tk xs.length ∧ (s.heap.IsListIter i2 a xs.length ∧ s.heap.IsList a vs.toArray))
    exact W.done s _ _ (by rw [hmin]; exact st) fun h1 tk1 kp => ⟨rfl, Iv.turnedL (fun b o nb e => kp b o (wr_cellsT nb) e) free⟩
def iZipT (K : PySem.W.Frag) (ta : TA) : TI := fun σ H R => ta σ H fun vs H1 => ∃ a z0 xs, vs = [.str z0, .ref a] ∧ SqL K H1 a xs ∧ R (ItzT K a z0) H1
theorem pi_zipT {X : Cx} {e e2 : Expr} {ta : TA} {p pos tpos : Pos} {elts : List Expr} {kk : Nat} (hg : Gl X "zip") (hm : X.mg "zip" = none) (args : PA X [e, e2] ta)
    (plain : starEach [e, e2] X.env = (false, eval e X.env) :: starEach [e2] X.env := by rfl) (nostar : (backTo pos (starEach [e2] X.env)).any (·.1) = false := by rfl) : PI X (.Tuple elts kk tpos) (.Call (.Name "zip" p) [e, e2] [] pos) (iZipT X.K ta) where
  run pins s σ H R Iv want := by
    refine Call_ (ld_blt Iv hg hm PyProof.Rows.boot_zip (PyProof.Rows.callWith_type1 (thn (args.run pos pins s σ H _ Iv want) fun us s1 got => ?_) plain nostar))
    obtain ⟨_, H1, I1, vals, a, z0, xs, rfl, hq, r⟩ := got
    cases vals with
    | cons v1 vals =>
      cases vals with
      | cons v2 vals =>
        cases vals
        cases v2
        obtain ⟨tk, rfl⟩ := v1
        obtain ⟨vs, -, isl, -⟩ := I1.list hq
        generalize hn : s1.heap.objs.size = n
        have old : a < n := hn ▸ isl.lt
        have far : ∀ k : Nat, a ≠ n + k := fun k => Nat.ne_of_lt (Nat.lt_of_lt_of_le old (Nat.le_add_right n k))
        have two : ∀ j k : Nat, j ≠ k → n + j ≠ n + k := fun j k h e => h (Nat.add_left_cancel e)
        have new : ∀ k : Nat, FpOk X pins H1 (n + k) := fun k => I1.fpOk (hn ▸ Nat.le_add_right _ k) (I1.hok.fresh (hn ▸ Nat.le_add_right _ k))
        refine zip_begins2 (begins_text z0 tk) (begins_list a vs.toArray) trivial isl.isList fun h' gz gI gO g1 g2 _ kp => wpAny_pyIter_zip gz ?_
        rw [hn] at gz gI gO g1 g2
        have sep : ZipSep2 (n + 4) (n + 2) (n + 3) (n + 0) (n + 1) [n + 0] [n + 1, a] := by
          have one : ∀ {b c : Addr}, b ≠ c → b ∉ [c] := fun h hm => h (List.mem_singleton.mp hm)
          have pair : ∀ {b c d : Addr}, b ≠ c → b ≠ d → b ∉ [c, d] := fun h1 h2 hm => (List.mem_cons.mp hm).elim h1 fun hm => h2 (List.mem_singleton.mp hm)
          exact ⟨two 2 4 (by decide), two 3 4 (by decide), two 2 3 (by decide), two 2 0 (by decide), List.mem_cons_self, one (two 4 0 (by decide)), one (two 3 0 (by decide)), two 2 1 (by decide), List.mem_cons_self, pair (two 4 1 (by decide)) (far 4).symm, pair (two 3 1 (by decide)) (far 3).symm, pair (two 0 1 (by decide)) (far 0).symm, one (two 1 0 (by decide))⟩
        rw [hn]
        refine ⟨n + 4, zipCellsT (n + 4) (n + 2) (n + 3) (n + 0) (n + 1), _, _, H1, rfl, I1.kept (t' := s1.toks) kp, turn_zipT (tk := tk) sep (far 0) (far 3) (far 1) (far 4), ⟨gz, gI, ⟨_, _, gO⟩, ⟨_, g1, rfl, rfl⟩, ⟨_, g2, rfl, rfl⟩⟩, ?_, r⟩
        simp only [zipCellsT, List.forall_mem_cons]
        exact ⟨new 4, new 2, new 3, new 0, new 1, fun _ hc => nomatch hc⟩
end
/-- for c, x in zip(a text, a list just made), of one length -/
theorem q_forZT {K : PySem.W.Frag} {xs : List V} {z0 : Str} {g : TG} {tb tz : TS} {D : Ends} {σ : L2.St} {H : Hp} {ta : TA} (h : ∀ Q : List V → Hp → Prop, (∀ H1 a, Ex H H1 → H a = none → H1 a = some (.lst xs) → Q [.str z0, .ref a] H1) → ta σ H Q) (hlen : xs.length = z0.cps.size) (Pv : Addr → Nat → L2.St → Hp → Prop) (h0 : ∀ H1 a, Ex H H1 → H a = none → H1 a = some (.lst xs) → Pv a 0 σ H1) (hl : ∀ a i σ' H', i ≤ xs.length → Pv a i σ' H' → H' a = some (.lst xs))
    (hs : ∀ a i x c T σ' Hc, xs[i]? = some x → z0.cps[i]? = some c → Pv a i σ' Hc → Hc T = none → ∃ σ2, Tgt g (.ref T) σ' σ2 (upd Hc T (.tup [.str ⟨#[c]⟩, x])) ∧ tb { nx := Pv a (i + 1), ct := Pv a (i + 1), bk := tz D, rt := D.rt } σ2 (upd Hc T (.tup [.str ⟨#[c]⟩, x])))
    (hd : ∀ a σ' H', Pv a xs.length σ' H' → tz D σ' H') : tSeq (tFor (iZipT K ta) g tb) tz D σ H := by
  refine h _ fun H1 a e1 hn hx => ⟨a, z0, xs, rfl, sq_of hx, ?_⟩
  refine ⟨fun i m σ' H' => m = xs.length - i ∧ i ≤ xs.length ∧ Pv a i σ' H', ⟨xs.length, by simp, Nat.zero_le _, h0 H1 a e1 hn hx⟩, ?_⟩
  rintro i m σ' H' ⟨rfl, hi, p⟩
  have hX := hl a i σ' H' hi p
  by_cases hlt : i < xs.length
  · have hlt2 : i < z0.cps.size := by omega
    refine .inr ⟨⟨xs, xs[i], z0.cps[i], sq_of hX, List.getElem?_eq_getElem hlt, Array.getElem?_eq_getElem hlt2⟩, Pv a (i + 1), fun σ2 H2 p' => ⟨xs.length - (i + 1), by omega, rfl, hlt, p'⟩, fun z H2 hz => ?_⟩
    obtain ⟨T, x, c, rfl, nT, rfl, hxx, hc⟩ := hz
    obtain ⟨σ2, h1, h2⟩ := hs a i x c T σ' H' (hxx xs (sq_of hX)) hc p nT
    exact h1 _ (Ex.refl _) _ h2
  · have ei : i = xs.length := by omega
    subst ei
    exact .inl ⟨⟨xs, sq_of hX, rfl, hlen⟩, hd a σ' H' p⟩

end Su
namespace Su
/-! ### dicts with texts as keys, evaluated -/
section
variable {K : PySem.W.Frag} {σ : L2.St} {H : Hp} {td ty tv te : TE} {d : Addr} {kvs : List (Key × V)} {k : Key} {v : V} {D : Ends} {tz : TS}
theorem ev_dget (h1 : Ev td σ H (.ref d)) (h2 : Ev ty σ H (kV k)) (hd : H d = some (.dK kvs)) (hv : valV kvs k = some v) : Ev (tDGet td ty) σ H v := fun H1 e Q q =>
  h1 H1 e _ fun H2 e2 => h2 H2 (e.trans e2) _ fun H3 e3 => ⟨d, v, rfl, hv ▸ DGet.k (((e.trans e2).trans e3) _ _ hd), q H3 (e2.trans e3)⟩
theorem ev_dgetO (h1 : Ev td σ H (.ref d)) (h2 : Ev ty σ H (kV k)) (hd : H d = some (.dK kvs)) : Ev (tDGet1 td ty) σ H ((valV kvs k).getD .non) := fun H1 e Q q =>
  h1 H1 e _ fun H2 e2 => ⟨d, rfl, .inl ⟨kvs, .inl ((e.trans e2) _ _ hd)⟩, h2 H2 (e.trans e2) _ fun H3 e3 => ⟨_, DGet.k (((e.trans e2).trans e3) _ _ hd), q H3 (e2.trans e3)⟩⟩
theorem ev_din (h2 : Ev ty σ H (kV k)) (h1 : Ev td σ H (.ref d)) (hd : H d = some (.dK kvs)) : Ev (tDIn ty td) σ H (.bl (valV kvs k).isSome) := fun H1 e Q q =>
  h2 H1 e _ fun H2 e2 => h1 H2 (e.trans e2) _ fun H3 e3 => ⟨d, _, rfl, DGet.k (((e.trans e2).trans e3) _ _ hd), q H3 (e2.trans e3)⟩
theorem ev_dnin (h2 : Ev ty σ H (kV k)) (h1 : Ev td σ H (.ref d)) (hd : H d = some (.dK kvs)) : Ev (tDNotIn ty td) σ H (.bl (!(valV kvs k).isSome)) := fun H1 e Q q =>
  h2 H1 e _ fun H2 e2 => h1 H2 (e.trans e2) _ fun H3 e3 => ⟨d, _, rfl, DGet.k (((e.trans e2).trans e3) _ _ hd), q H3 (e2.trans e3)⟩
theorem s_dput (h0 : Ev tv σ H v) (h1 : Ev td σ H (.ref d)) (h2 : Ev ty σ H (kV k)) (hd : H d = some (.dK kvs)) (hl : kvs.length < 100000) (n : ∀ H1, Ex H H1 → D.nx σ (upd H1 d (.dK (putK kvs k v)))) : sDPut td ty tv D σ H :=
  h0 H (Ex.refl _) _ fun H1 e1 => h1 H1 e1 _ fun H2 e2 => h2 H2 (e1.trans e2) _ fun H3 e3 => ⟨d, _, rfl, .inl ⟨kvs, k, ((e1.trans e2).trans e3) _ _ hd, rfl, sz_lt hl, rfl⟩, n H3 ((e1.trans e2).trans e3)⟩
theorem q_dput (h0 : Ev tv σ H v) (h1 : Ev td σ H (.ref d)) (h2 : Ev ty σ H (kV k)) (hd : H d = some (.dK kvs)) (hl : kvs.length < 100000) (n : ∀ H1, Ex H H1 → tz D σ (upd H1 d (.dK (putK kvs k v)))) : tSeq (sDPut td ty tv) tz D σ H := s_dput (D := { D with nx := tz D }) h0 h1 h2 hd hl n
theorem s_ddel (h1 : Ev td σ H (.ref d)) (h2 : Ev ty σ H (kV k)) (hd : H d = some (.dK kvs)) (hv : (valV kvs k).isSome = true) (n : ∀ H1, Ex H H1 → D.nx σ (upd H1 d (.dK (dropK kvs k)))) : sDDel td ty D σ H :=
  h1 H (Ex.refl _) _ fun H1 e1 => h2 H1 e1 _ fun H2 e2 => ⟨d, kvs, k, rfl, (e1.trans e2) _ _ hd, rfl, hv, n H2 (e1.trans e2)⟩
theorem el_dkeys (h : Ev te σ H (.ref d)) (hd : H d = some (.dK kvs)) : EvL (tCB rListD (tCons te tNil)) σ H (kvs.map fun kv => kV kv.1) := fun H1 e Q q =>
  h H1 e _ fun H2 e2 => ⟨d, kvs, rfl, (e.trans e2) _ _ hd, fun p hp => q p _ (fresh_back e2 hp) (e2.trans (Ex.new hp)) upd_same⟩
/-- a new dict -/
def EvK (te : TE) (σ : L2.St) (H : Hp) (kvs : List (Key × V)) : Prop := ∀ H1, Ex H H1 → ∀ Q : VK, (∀ p H2, H1 p = none → Ex H1 H2 → H2 p = some (.dK kvs) → Q (.ref p) H2) → te σ H1 Q
theorem q_asgK {i : Nat} (h : EvK te σ H kvs) (n : ∀ p H1, H p = none → Ex H H1 → H1 p = some (.dK kvs) → tz D (σ.set i (some (.ref p))) H1) : tSeq (tAsg te (gName i)) tz D σ H := h H (Ex.refl _) _ n
theorem ek_new : EvK tDNewK σ H [] := fun H1 _ Q q p hp => q p _ hp (Ex.new hp) upd_same
end

end Su
namespace Su
theorem inr_inj {a b : Str} : decide ((Sum.inr a : Key) = Sum.inr b) = decide (a = b) := by
  by_cases h : a = b
  · rw [h, decide_eq_true rfl, decide_eq_true rfl]
  · rw [decide_eq_false h, decide_eq_false fun z => h (Sum.inr.inj z)]
theorem valV_kv {α : Type} (f : α → Str) (g : α → V) (l : List α) (nm : Str) : valV (l.map fun a => ((Sum.inr (f a) : Key), g a)) (.inr nm) = (l.find? fun a => decide (f a = nm)).map g := by
  unfold valV
  rw [List.find?_map, Option.map_map]
  have : ((fun kv : Key × V => decide (kv.1 = Sum.inr nm)) ∘ fun a => ((Sum.inr (f a) : Key), g a)) = fun a => decide (f a = nm) := funext fun a => inr_inj
  rw [this]
  rfl
theorem putK_new {kvs : List (Key × V)} {k : Key} {v : V} (h : valV kvs k = none) : putK kvs k v = kvs ++ [(k, v)] := by
  unfold putK
  have hn : (kvs.any fun kv => decide (kv.1 = k)) = false := by
    unfold valV at h
    rw [Option.map_eq_none_iff] at h
    rw [List.any_eq_false]
    intro x hx
    exact List.find?_eq_none.mp h x hx
  rw [hn]
  rfl

end Su
namespace Su
theorem cut_to (xs : List V) (k : Nat) : cutV xs none (some (k : Int)) = xs.take k := by
  unfold cutV
  rw [HT.sIx_nat, HT.sIx_none, List.drop_zero, Nat.sub_zero]
  by_cases h : k ≤ xs.length
  · rw [Nat.min_eq_left h]
  · rw [Nat.min_eq_right (by omega), List.take_of_length_le (Nat.le_refl _), List.take_of_length_le (by omega)]
theorem el_cat {ta tb : TE} {σ : L2.St} {H : Hp} {xs ys : List V} (ha : EvL ta σ H xs) (hb : EvL tb σ H ys) (hz : xs.length + ys.length ≤ 100000) : EvL (tOp rCat ta tb) σ H (xs ++ ys) := fun H1 e Q q =>
  ha H1 e _ fun p H2 hp e2 h2 => hb H2 (e.trans e2) _ fun p2 H3 hp3 e3 h3 => ⟨p, p2, xs, ys, rfl, rfl, e3 p _ h2, h3, sz_of hz, fun r hr => q r _ (fresh_back (e2.trans e3) hr) ((e2.trans e3).trans (Ex.new hr)) upd_same⟩

end Su
namespace Su
open TL
/-! ### the law's own reading (k38, k39) -/
def rRepS : R2 := fun x y H Q => ∃ (a : Str) (n : Int), x = .str a ∧ y = .int n ∧ MulOk a n ∧ Q (.str (Txt.mul a n)) H
theorem op_rep_str {X : Cx} : OpR X (binaryOp .Mult) rRepS := by
  intro pins s σ H x y v u Q I rx ry h
  obtain ⟨a, n, rfl, rfl, hok, q⟩ := h
  obtain ⟨t, rfl⟩ := rx
  obtain ⟨t', rfl⟩ := ry
  exact PySem.SB.mul hok fun t' k => ⟨.str _, H, I.tok _, ⟨_, rfl⟩, q⟩
theorem mulOk_small {a : Str} {k : Nat} (ha : a.length ≤ 3) (hk : k ≤ 20000) : MulOk a (k : Int) := by
  refine ⟨?_, fun h1 _ h => ?_, fun _ _ => ?_⟩
  · rw [decide_eq_false (show ¬ ((k : Int) < -(2 ^ 63 : Int)) by omega), decide_eq_false (show ¬ ((k : Int) ≥ 2 ^ 63) by omega)]
    rfl
  · have h0 : (0 : Int) < (k : Int) := by omega
    have : (3 : Int) ≤ (2 ^ 63 - 1) / (k : Int) := (Int.le_ediv_iff_mul_le h0).mpr (by omega)
    omega
  · unfold PySem.Builtin.Str.tooLong
    have e : a.length * (k : Int).toNat ≤ 100000 := by
      rw [Int.toNat_natCast]
      exact Nat.le_trans (Nat.mul_le_mul ha hk) (by decide)
    exact decide_eq_false (Nat.not_lt.mpr (sz_of e))
theorem tl_rep {a : Str} {k : Nat} (hk : 1 ≤ k) : tl (Txt.mul a (k : Int)) = (List.replicate k (tl a)).flatten := by
  have hf : ∀ (l : List (Array Nat)) (acc : Array Nat), (l.foldl (· ++ ·) acc).toList = acc.toList ++ (l.map Array.toList).flatten := by
    intro l
    induction l with
    | nil => intro acc; simp
    | cons b r ih => intro acc; rw [List.foldl_cons, ih, Array.toList_append, List.map_cons, List.flatten_cons, List.append_assoc]
  unfold Txt.mul
  rw [if_neg (show ¬ ((k : Int) < 1) by omega)]
  split
  · rename_i h
    rw [Bool.or_eq_true] at h
    rcases h with h | h
    · have : k = 1 := by have := eq_of_beq h; omega
      subst this
      simp
    · have h2 : tl a = [] := by
        have := eq_of_beq h
        rw [len_tl] at this
        exact List.length_eq_zero_iff.mp this
      rw [h2]
      symm
      rw [List.flatten_eq_nil_iff]
      intro l hl
      exact (List.mem_replicate.mp hl).2
  · show ((List.replicate ((k : Int)).toNat a.cps).foldl (· ++ ·) #[]).toList = _
    rw [hf, Int.toNat_natCast, List.map_replicate]
    rfl
/-! the shape of a line's words -/
def k3 (ws : List Str) : Nat := (ws.length - 4) / 3
def lfound (ws : List Str) : Bool := decide (ws[0]? = some foundS) && (decide (6 < ws.length) && (decide (ws.length % 3 = 1) && (decide (ws[3]? = some plainS) || decide (ws[3]? = some bidsS))))
def shapeL (ws : List Str) : List Nat := if lfound ws = true then [110, 99] ++ ([119] ++ (List.replicate (k3 ws) [110, 99, 99]).flatten) else ((ws[0]?.bind formOf).map tl).getD []
def lawD (ws : List Str) (ps : List DW) : PyData := if ws[0]? = some foundS then .tuple ((ps.take 2).foldr (fun p r => p.d :: r) [.bool false]) else .tuple []
theorem chunks : ∀ (k : Nat) (l : List Str), l.length = 3 * k → rdAll ((List.replicate k [110, 99, 99]).flatten.zip l) = (optAll ((List.range k).map fun i => rdWords ((l.drop (3 * i)).take 3) [110, 99, 99])).map List.flatten
  | 0, l, h => by
    have : l = [] := List.length_eq_zero_iff.mp (by omega)
    subst this
    rfl
  | k + 1, a :: b :: c :: l, h => by
    have hl : l.length = 3 * k := by simp only [List.length_cons] at h; omega
    have ih := chunks k l hl
    have e1 : (List.replicate (k + 1) [110, 99, 99]).flatten.zip (a :: b :: c :: l) = [(110, a), (99, b), (99, c)] ++ (List.replicate k [110, 99, 99]).flatten.zip l := by
      rw [List.replicate_succ, List.flatten_cons]
      rfl
    rw [e1, rdAll_append, ih, List.range_succ_eq_map, List.map_cons, List.map_map]
    have e2 : rdWords ((List.drop (3 * 0) (a :: b :: c :: l)).take 3) [110, 99, 99] = rdAll [(110, a), (99, b), (99, c)] := rfl
    have e3 : ((fun i => rdWords ((List.drop (3 * i) (a :: b :: c :: l)).take 3) [110, 99, 99]) ∘ Nat.succ) = fun i => rdWords ((List.drop (3 * i) l).take 3) [110, 99, 99] := by
      funext i
      show rdWords ((List.drop (3 * (i + 1)) (a :: b :: c :: l)).take 3) [110, 99, 99] = _
      rw [show 3 * (i + 1) = 3 * i + 3 from by omega]
      rfl
    rw [e2, e3]
    cases hA : rdAll [(110, a), (99, b), (99, c)] with
    | none => rfl
    | some x =>
      show _ = (Option.bind (some x) _).map List.flatten
      cases hB : optAll ((List.range k).map fun i => rdWords ((List.drop (3 * i) l).take 3) [110, 99, 99]) with
      | none =>
        rfl
      | some y =>
        rfl
  | k + 1, [], h => by simp at h
  | k + 1, [_], h => by simp at h; omega
  | k + 1, [_, _], h => by simp at h; omega
theorem optAll_bad {α : Type} : ∀ {l : List (Option α)} {i : Nat}, l[i]? = some none → optAll l = none
  | o :: r, 0, h => by
    obtain rfl := Option.some.inj h
    rfl
  | o :: r, i + 1, h => by
    have := optAll_bad (l := r) (i := i) h
    show (o.bind fun a => (optAll r).map fun b => a :: b) = none
    rw [this]
    cases o <;> rfl
theorem rdAll_bad {l : List (Nat × Str)} {i : Nat} {p : Nat × Str} (h : l[i]? = some p) (hb : rdOne p.1 p.2 = none) : rdAll l = none := by
  cases e : rdAll l with
  | none => rfl
  | some ps =>
    have hi := (List.getElem?_eq_some_iff.mp h).1
    have h1 := rdAll_get e
    have h2 := h1.2 i p h
    rw [hb, List.getElem?_eq_getElem (by omega)] at h2
    cases h2
theorem rdAll_take {l : List (Nat × Str)} {i : Nat} {p : Nat × Str} {ps : List DW} {a : DW} (h : l[i]? = some p) (hp : rdAll (l.take i) = some ps) (ha : rdOne p.1 p.2 = some a) : rdAll (l.take (i + 1)) = some (ps ++ [a]) := by
  rw [List.take_succ, h, rdAll_append, hp]
  show (rdAll [p]).map _ = _
  have : rdAll [p] = some [a] := by
    show ((rdOne p.1 p.2).bind fun a => (rdAll []).map fun b => a :: b) = _
    rw [ha]
    rfl
  rw [this]
  rfl
/-- what the law's reading comes to: the parts, then the tuple -/
def partsR (ws : List Str) : Option (List DW) := if shapeL ws = [] ∨ ws.length ≠ (shapeL ws).length + 1 then none else rdAll ((shapeL ws).zip (ws.drop 1))
def tupleR (ws : List Str) (ps : List DW) : PyData := if ws[0]? = some foundS then
    .tuple (.str foundS :: ((ps.take 2).map DW.d ++ [.bool (decide (ws[3]? = some bidsS)), .tuple ((List.range ((ps.length - 3) / 3)).map fun i => .tuple (((ps.drop (3 + 3 * i)).take 3).map DW.d))]))
  else .tuple (.str ((ws[0]?).getD Str.empty) :: ps.map DW.d)
theorem formOf_found : formOf foundS = none := by
  unfold formOf getD'
  have : formsKv.find? (fun kv => kv.1 == foundS) = none := by
    rw [List.find?_eq_none]
    simp only [formsKv, List.forall_mem_cons]
    refine ⟨?_, ?_, ?_, ?_, ?_, ?_, ?_, ?_, ?_, fun _ h => nomatch h⟩ <;> decide +kernel
  rw [this]
  rfl
theorem flat3 : ∀ (rows : List (List DW)) (i : Nat) (r : List DW), (∀ r ∈ rows, r.length = 3) → rows[i]? = some r → (rows.flatten.drop (3 * i)).take 3 = r
  | [], _, _, _, h => nomatch h
  | q :: rows, 0, r, h3, h => by
    obtain rfl := Option.some.inj h
    rw [List.flatten_cons, Nat.mul_zero, List.drop_zero]
    have := h3 q List.mem_cons_self
    rw [← this, List.take_left']
    rfl
  | q :: rows, i + 1, r, h3, h => by
    rw [List.flatten_cons, show 3 * (i + 1) = 3 + 3 * i from by omega, ← List.drop_drop]
    have := h3 q List.mem_cons_self
    rw [show (q ++ rows.flatten).drop 3 = rows.flatten from by rw [← this, List.drop_left']; rfl]
    exact flat3 rows i r (fun x hx => h3 x (List.mem_cons_of_mem _ hx)) h
theorem rdw_len {ws : List Str} {fs : List Nat} {ps : List DW} (h : rdWords ws fs = some ps) : ps.length = fs.length := by
  unfold rdWords at h
  split at h
  · rename_i hl
    have := (rdAll_get h).1
    rw [List.length_zip] at this
    omega
  · cases h
theorem drop_four {ws : List Str} (h : 3 < ws.length) : ws.drop 1 = (ws.drop 1).take 2 ++ ([ws[3]] ++ ws.drop 4) := by
  match ws, h with
  | a :: b :: c :: d :: r, _ => rfl
theorem read_eq (ws : List Str) (h1 : 1 ≤ ws.length) : deedR ws = (partsR ws).map (tupleR ws) := by
  have h0 : ws[0]? = some ws[0] := List.getElem?_eq_getElem (by omega)
  unfold deedR
  rw [h0]
  show (if ws[0] = foundS then _ else _) = _
  by_cases hf : ws[0] = foundS
  · rw [if_pos hf]
    have h0f : ws[0]? = some foundS := by rw [h0, hf]
    by_cases hl : lfound ws = true
    · have hl' := hl
      unfold lfound at hl'
      simp only [Bool.and_eq_true, Bool.or_eq_true, decide_eq_true_eq] at hl'
      obtain ⟨_, l1, l2, l3⟩ := hl'
      have hh : headOk ws = true := by
        unfold headOk
        rw [decide_eq_true (show 7 ≤ ws.length by omega), Bool.true_and, Bool.or_eq_true, decide_eq_true_eq, decide_eq_true_eq]
        exact l3
      have hsh : shapeL ws = [110, 99] ++ ([119] ++ (List.replicate (k3 ws) [110, 99, 99]).flatten) := by unfold shapeL; rw [if_pos hl]
      have hk : ws.length = 4 + 3 * k3 ws := by unfold k3; omega
      have hrl : ∀ k : Nat, (List.replicate k [110, 99, 99] : List (List Nat)).flatten.length = 3 * k := fun k => by
        rw [List.length_flatten, List.map_replicate, List.sum_replicate_nat]
        show k * 3 = _
        omega
      have hsl : (shapeL ws).length = 3 + 3 * k3 ws := by rw [hsh, List.length_append, List.length_append, hrl]; show 2 + (1 + _) = _; omega
      have hd1 : ws.drop 1 = (ws.drop 1).take 2 ++ ([ws[3]] ++ ws.drop 4) := drop_four (by omega)
      have ht2 : ((ws.drop 1).take 2).length = 2 := by rw [List.length_take, List.length_drop]; omega
      have hp : partsR ws = (rdWords ((ws.drop 1).take 2) [110, 99]).bind fun a => (some [DW.nm ws[3]]).bind fun b => ((seatsR ws).map List.flatten).map fun c => a ++ (b ++ c) := by
        unfold partsR
        rw [if_neg (by rw [hsl]; intro z; rcases z with z | z; · rw [z] at hsl; simp at hsl; omega
                       · omega), hsh]
        conv => lhs; rw [hd1]
        rw [List.zip_append (show ([110, 99] : List Nat).length = _ from ht2.symm), List.zip_append (show ([119] : List Nat).length = ([ws[3]] : List Str).length from rfl), rdAll_append, rdAll_append, chunks _ _ (by rw [List.length_drop]; omega)]
        have e1 : rdWords ((ws.drop 1).take 2) [110, 99] = rdAll (List.zip [110, 99] ((ws.drop 1).take 2)) := if_pos ht2
        have e2 : rdAll (List.zip [119] [ws[3]]) = some [DW.nm ws[3]] := rfl
        have e3 : seatsR ws = optAll ((List.range (k3 ws)).map fun i => rdWords (((ws.drop 4).drop (3 * i)).take 3) [110, 99, 99]) := by
          unfold seatsR
          rw [show seatsN ws = k3 ws from by unfold seatsN k3; omega]
          congr 1
          apply List.map_congr_left
          intro i _
          unfold chunkAt
          rw [List.drop_drop]
        rw [e1, e2, ← e3]
        cases rdAll (List.zip [110, 99] ((ws.drop 1).take 2)) with
        | none => rfl
        | some a =>
          cases seatsR ws with
          | none => rfl
          | some c => rfl
      unfold foundR
      rw [if_pos hh, hp]
      cases ha : rdWords ((ws.drop 1).take 2) [110, 99] with
      | none => rfl
      | some a =>
        cases hr : seatsR ws with
        | none => rfl
        | some rows =>
          have hal := rdw_len ha
          show some (foundD ws a rows) = some (tupleR ws (a ++ ([DW.nm ws[3]] ++ rows.flatten)))
          congr 1
          have ho := optAll_some hr
          have hrows : ∀ r ∈ rows, r.length = 3 := fun r hr => by
            have : some r ∈ (List.range (seatsN ws)).map fun i => rdWords (chunkAt ws i) [110, 99, 99] := by rw [ho]; exact List.mem_map_of_mem hr
            obtain ⟨i, _, e⟩ := List.mem_map.mp this
            exact rdw_len e
          have hfl : rows.flatten.length = 3 * rows.length := by
            clear ho hr
            induction rows with
            | nil => rfl
            | cons q r ih =>
              rw [List.flatten_cons, List.length_append, hrows q List.mem_cons_self, ih fun x hx => hrows x (List.mem_cons_of_mem _ hx), List.length_cons]
              omega
          unfold foundD tupleR
          rw [if_pos h0f]
          have e1 : (a ++ ([DW.nm ws[3]] ++ rows.flatten)).take 2 = a := by
            rw [List.take_append_of_le_length (by rw [hal]; exact Nat.le_refl _)]
            exact List.take_of_length_le (by rw [hal]; exact Nat.le_refl _)
          have e2 : ((a ++ ([DW.nm ws[3]] ++ rows.flatten)).length - 3) / 3 = rows.length := by
            rw [List.length_append, List.length_append, hal, hfl]
            show (2 + (1 + 3 * rows.length) - 3) / 3 = _
            omega
          have e3 : (List.range rows.length).map (fun i => PyData.tuple ((((a ++ ([DW.nm ws[3]] ++ rows.flatten)).drop (3 + 3 * i)).take 3).map DW.d)) = rows.map fun r => .tuple (r.map DW.d) := by
            apply List.ext_getElem
            · rw [List.length_map, List.length_range, List.length_map]
            · intro i h1 h2
              rw [List.length_map] at h2
              rw [List.getElem_map, List.getElem_map, List.getElem_range]
              have e4 : (a ++ ([DW.nm ws[3]] ++ rows.flatten)).drop (3 + 3 * i) = rows.flatten.drop (3 * i) := by
                rw [← List.drop_drop]
                congr 1
                rw [← List.append_assoc]
                exact List.drop_left' (by rw [List.length_append, hal]; rfl)
              rw [e4, flat3 rows i rows[i] hrows (List.getElem?_eq_getElem h2)]
          rw [e1, e2, e3]
    · have hs : shapeL ws = [] := by
        unfold shapeL
        rw [if_neg hl, h0f]
        show (((formOf foundS)).map tl).getD [] = []
        rw [formOf_found]
        rfl
      have hp : partsR ws = none := by unfold partsR; rw [if_pos (.inl hs)]
      rw [hp]
      show foundR ws = none
      unfold foundR
      by_cases hh : headOk ws = true
      · rw [if_pos hh]
        unfold headOk at hh
        rw [Bool.and_eq_true, Bool.or_eq_true, decide_eq_true_eq, decide_eq_true_eq, decide_eq_true_eq] at hh
        have hm : ws.length % 3 ≠ 1 := fun z => hl (by
          unfold lfound
          rw [decide_eq_true h0f, decide_eq_true (show 6 < ws.length by omega), decide_eq_true z]
          simpa using hh.2)
        have hn : seatsR ws = none := by
          unfold seatsR
          refine optAll_bad (i := seatsN ws - 1) ?_
          have hN : seatsN ws - 1 < seatsN ws := by unfold seatsN; omega
          rw [List.getElem?_map, List.getElem?_range hN]
          show some (rdWords (chunkAt ws (seatsN ws - 1)) [110, 99, 99]) = some none
          congr 1
          unfold rdWords
          rw [if_neg]
          unfold chunkAt
          rw [List.length_take, List.length_drop]
          show ¬ (min 3 _ = 3)
          unfold seatsN
          omega
        rw [hn]
        cases rdWords ((ws.drop 1).take 2) [110, 99] <;> rfl
      · rw [if_neg hh]
  · rw [if_neg hf]
    have hl : ¬ lfound ws = true := fun z => by
      unfold lfound at z
      rw [Bool.and_eq_true, decide_eq_true_eq, h0] at z
      exact hf (Option.some.inj z.1)
    have hs : shapeL ws = ((formOf ws[0]).map tl).getD [] := by
      unfold shapeL
      rw [if_neg hl, h0]
      rfl
    cases hF : formOf ws[0] with
    | none =>
      have hp : partsR ws = none := by unfold partsR; rw [if_pos (.inl (by rw [hs, hF]; rfl))]
      rw [hp]
      rfl
    | some form =>
      have hs2 : shapeL ws = tl form := by rw [hs, hF]; rfl
      obtain ⟨hg, _, _⟩ := formOf_some hF
      have hne : tl form ≠ [] := by
        unfold getD' at hg
        obtain ⟨kv, hkv, e⟩ := Option.map_eq_some_iff.mp hg
        have hm := List.mem_of_find?_eq_some hkv
        have hall : ∀ kv ∈ formsKv, ∀ g, kv.2 = .str g → tl g ≠ [] := by
          simp only [formsKv, List.forall_mem_cons]
          have q : ∀ s : Str, tl s ≠ [] → ∀ g, V.str s = .str g → tl g ≠ [] := fun s h g e => by cases e; exact h
          refine ⟨q _ ?_, q _ ?_, q _ ?_, q _ ?_, q _ ?_, q _ ?_, q _ ?_, q _ ?_, q _ ?_, fun _ h => nomatch h⟩ <;> decide +kernel
        exact hall kv hm form e
      have hp : partsR ws = rdWords (ws.drop 1) (tl form) := by
        unfold partsR rdWords
        rw [hs2, List.length_drop]
        by_cases hlen : ws.length - 1 = (tl form).length
        · rw [if_neg (by rintro (z | z); exact hne z; exact z (by omega)), if_pos hlen]
        · rw [if_pos (.inr fun z => hlen (by omega)), if_neg hlen]
      rw [hp]
      show (rdWords (ws.drop 1) (tl form)).map _ = _
      have e : (fun ps : List DW => PyData.tuple (.str ws[0] :: ps.map DW.d)) = tupleR ws := by
        funext ps
        unfold tupleR
        rw [if_neg (by rw [h0]; exact fun z => hf (Option.some.inj z)), h0]
        rfl
      rw [e]

end Su
namespace Su
open TL
/-! ### .. walked -/
theorem mergeK_new : ∀ (more acc : List (Key × V)), (∀ kv ∈ more, kv.1 ∉ acc.map Prod.fst) → (more.map Prod.fst).Nodup → mergeK acc more = acc ++ more
  | [], acc, _, _ => by rw [List.append_nil]; rfl
  | kv :: r, acc, h, nd => by
    show mergeK (putK acc kv.1 kv.2) r = _
    have hn : (acc.any fun x => decide (x.1 = kv.1)) = false := by
      rw [List.any_eq_false]
      intro x hx z
      exact h kv List.mem_cons_self (List.mem_map.mpr ⟨x, hx, of_decide_eq_true z⟩)
    have hp : putK acc kv.1 kv.2 = acc ++ [kv] := by
      unfold putK
      rw [hn]
      rfl
    rw [List.map_cons, List.nodup_cons] at nd
    rw [hp, mergeK_new r (acc ++ [kv]) (fun x hx z => ?_) nd.2, List.append_assoc]
    · rfl
    · rw [List.map_append] at z
      rcases List.mem_append.mp z with z | z
      · exact h x (List.mem_cons_of_mem _ hx) z
      · exact nd.1 (List.mem_map.mpr ⟨x, hx, List.mem_singleton.mp z⟩)
def sKv (l : List (Str × V)) : List (Key × V) := l.map fun kv => ((Sum.inr kv.1 : Key), kv.2)
theorem valV_sKv (l : List (Str × V)) (z : Str) : valV (sKv l) (.inr z) = getD' l z := by
  unfold sKv getD'
  rw [valV_kv]
  congr 1
theorem rv_rep {H : Hp} {a : Str} {n : Int} (h : MulOk a n) : RV rRepS (.str a) (.int n) H (.str (Txt.mul a n)) := fun H1 _ _ q => ⟨a, n, rfl, rfl, h, q H1 (Ex.refl _)⟩
section
variable {P : Program} {w : World} {K : PySem.W.Frag} {mg : Str → Option Value} {base : Heap}
theorem ok__law_is_name {f : Addr} {fd : FuncData} (F : Fun K "_law_is_name" "_law_is_name" s__law_is_name f fd) (T : Top K mg) : FnOk P w K mg base CX0 1 f fd ["_law_word"] spIsName := by
  have nd := sc__law_is_name.nd
  refine F.ok sc__law_is_name (fun vs H Q E h => ?_) (fun cdv A outer s H vs Q E hr h => ?_)
  · obtain ⟨z, rfl, _⟩ := h
    rfl
  · obtain ⟨z, rfl, hz, q⟩ := h
    refine ⟨_, (pss_one (ps_ret (pe_and (pe_chain op_le op_le pe_int (pe_callB call_len_str (by rfl) T.m_len PySem.boot_len (pa_cons (pv 0) pa_nil)) pe_int) (pe_one (pe_callB (cr_all rfl) (by rfl) T.m_all (by decide +kernel) (pa_cons (pe_lc (own := [("_law_sign", 1)]) (g := gName 1) (tt := tYes) rfl nd (pi_str (pv 0)) (blkOk_by (own := [("_law_sign", 1)]) (N := Su.N__law_is_name) (sc := defScope s__law_is_name) (by decide +kernel)) (fun _ _ _ _ _ => (pg_name (i := 1) nd rfl (.inl rfl))) (fun _ _ _ _ _ => pts_nil) (fun _ _ _ _ _ => (pe_cmpR op_in_sign (pv 1) pe_str rfl))) pa_nil)))))), ?_⟩
    refine s_ret (ev_andV (chain_le' (a := 1) (b := z.length) (c := 12) ev_c (ev_cb (ea_cons (ev_var rfl) ea_nil) (rc_lenS (by omega))) ev_c) fun _ => ev_allSigns (fun c => decide (c ∈ lettersS.cps.toList)) (ev_var rfl) hz (fun _ => rfl) fun c Hb _ => ev_op (ev_var rfl) ev_c rv_inSign) q
def spIsNum : Sp := fun vs H Q _ => ∃ z : Str, vs = [.str z] ∧ z.length ≤ 40000 ∧ ∀ H', Ex H H' → Q (.bl (numB z)) H'
theorem spV_isNum {z : Str} {H : Hp} (hz : z.length ≤ 40000) : SpV spIsNum [.str z] H (.bl (numB z)) := fun H1 e Q q _ => ⟨z, rfl, hz, q⟩
theorem ok__law_is_number {f : Addr} {fd : FuncData} (F : Fun K "_law_is_number" "_law_is_number" s__law_is_number f fd) (T : Top K mg) : FnOk P w K mg base CX0 1 f fd ["_law_word"] spIsNum := by
  have nd := sc__law_is_number.nd
  refine F.ok sc__law_is_number (fun vs H Q E h => ?_) (fun cdv A outer s H vs Q E hr h => ?_)
  · obtain ⟨z, rfl, _⟩ := h
    rfl
  · obtain ⟨z, rfl, hz, q⟩ := h
    refine ⟨_, (pss_cons (ps_if (PW.pt (pw_or (pt_not (pt_chain op_le op_le pe_int (pe_callB call_len_str (by rfl) T.m_len PySem.boot_len (pa_cons (pv 0) pa_nil)) pe_int)) (pw_or1 (pt_not (pt_val (pe_callB (cr_all rfl) (by rfl) T.m_all (by decide +kernel) (pa_cons (pe_lc (own := [("_law_sign", 1)]) (g := gName 1) (tt := tYes) rfl nd (pi_str (pv 0)) (blkOk_by (own := [("_law_sign", 1)]) (N := Su.N__law_is_number) (sc := defScope s__law_is_number) (by decide +kernel)) (fun _ _ _ _ _ => (pg_name (i := 1) nd rfl (.inl rfl))) (fun _ _ _ _ _ => pts_nil) (fun _ _ _ _ _ => (pe_cmpR op_in_sign (pv 1) pe_str rfl))) pa_nil)))))))
        (pss_one (ps_ret pe_bl))
        pss_nil)
      (pss_one (ps_ret (pe_or (pe_cmpR op_eq (pv 0) pe_str (nomark _)) (pe_one (pe_cmpR op_ne (pe_ix ix_str (pv 0) pe_int (fun _ _ => rfl)) pe_str (nomark _))))))), ?_⟩
    refine q_when (b := !digB z) (et_is (et_or (et_not (chain_le (a := 1) (b := z.length) (c := 12) ev_c (ev_cb (ea_cons (ev_var rfl) ea_nil) (rc_lenS (by omega))) ev_c)) fun _ => et_not (et_B (ev_allSigns (fun c => decide (c ∈ figS.cps.toList)) (ev_var rfl) hz (fun _ => rfl) fun c Hb _ => ev_op (ev_var rfl) ev_c rv_inSign))) (by unfold digB; simp only [Bool.not_and])) (fun hb H1 e1 => ?_) (fun hb H1 e1 => ?_)
    · refine s_ret ev_c fun H2 e2 => ?_
      have : numB z = false := by
        unfold numB
        cases h : digB z <;> rw [h] at hb <;> first | rfl | cases hb
      rw [← this]
      exact q H2 (e1.trans e2)
    have hd : digB z = true := by cases h : digB z <;> rw [h] at hb <;> first | rfl | cases hb
    obtain ⟨l1, l2⟩ := digB_len hd
    obtain ⟨c, hc, hh⟩ := head_first l1
    refine s_ret (ev_orV (ev_op (ev_var rfl) ev_c (rv_eq rfl)) fun _ => ev_op (ev_op (ev_var rfl) ev_c (rv_ixS (by omega) hc)) ev_c (rv_ne rfl)) fun H2 e2 => ?_
    have : numB z = (decide (V.str z = V.str (Str.ofString "0")) || !decide (V.str ⟨#[c]⟩ = V.str (Str.ofString "0"))) := by
      unfold numB zeroB
      rw [hd, hh, str_eq, str_eq, Bool.true_and, Bool.not_and, Bool.not_not, Bool.or_comm]
      congr 2
      exact decide_eq_decide.mpr ⟨fun e => str_one.mpr (Option.some.inj e), fun e => congrArg some (str_one.mp e)⟩
    rw [← this]
    exact q H2 (e1.trans e2)
def spShape (K : PySem.W.Frag) : Sp := fun vs H Q _ => ∃ (a : Addr) (ws : List Str), vs = [.ref a] ∧ SqL K H a (ws.map V.str) ∧ WsOk ws ∧ 1 ≤ ws.length ∧ ∀ H' z, Ex H H' → tl z = shapeL ws → Q (.str z) H'
theorem ok__law_shape {f : Addr} {fd : FuncData} (F : Fun K "_law_shape" "_law_shape" s__law_shape f fd) (T : Top K mg) : FnOk P w K mg base CX0 1 f fd ["_law_words"] (spShape K) := by
  have nd := sc__law_shape.nd
  refine F.ok sc__law_shape (fun vs H Q E h => ?_) (fun cdv A outer s H vs Q E hr h => ?_)
  · obtain ⟨a, ws, rfl, _⟩ := h
    rfl
  · obtain ⟨a, ws, rfl, hS, hws, h1, q⟩ := h
    have h0 : ws[0]? = some ws[0] := List.getElem?_eq_getElem (by omega)
    have hlV : (ws.map V.str).length = ws.length := List.length_map ..
    refine ⟨_, (pss_cons (ps_set (i := 1) nd rfl (.inl rfl) (pe_disp (pps_cons pe_str pe_str (pps_cons pe_str pe_str (pps_cons pe_str pe_str (pps_cons pe_str pe_str (pps_cons pe_str pe_str (pps_cons pe_str pe_str (pps_cons pe_str pe_str pps_nil))))))) rfl rfl (by simp) (by decide)))
      (pss_cons (ps_dput (hu_of hr) (pv 1) pe_str pe_str rfl)
      (pss_cons (ps_dput (hu_of hr) (pv 1) pe_str pe_str rfl)
      (pss_cons (ps_if (PW.pt (pw_and (pt_cmpR op_eq (pe_ix ix_list (pv 0) pe_int (fun _ _ => rfl)) pe_str (nomark _)) (pw_and (pt_cmpR op_gt (pe_callB call_len_seq (by rfl) T.m_len PySem.boot_len (pa_cons (pv 0) pa_nil)) pe_int (nomark _)) (pw_and (pt_cmpR op_eq (pe_op op_mod (pe_callB call_len_seq (by rfl) T.m_len PySem.boot_len (pa_cons (pv 0) pa_nil)) pe_int) pe_int (nomark _)) (pw_and1 (pt_cmpR op_in_seq (pe_ix ix_list (pv 0) pe_int (fun _ _ => rfl)) (pe_tup (pa_cons pe_str (pa_cons pe_str pa_nil))) rfl))))))
        (pss_one (ps_ret (pe_op op_add_str (pe_op op_add_str pe_str pe_str) (pe_op op_rep_str pe_str (pe_op op_fdiv (pe_op op_sub (pe_callB call_len_seq (by rfl) T.m_len PySem.boot_len (pa_cons (pv 0) pa_nil)) pe_int) pe_int)))))
        pss_nil)
      (pss_one (ps_ret (pe_dget2 (hu_of hr) (pv 1) (pe_ix ix_list (pv 0) pe_int (fun _ _ => rfl)) pe_str ⟨rfl, rfl, rfl, rfl⟩))))))), ?_⟩
    refine q_asgK (kvs := sKv (formsKv.take 7)) (fun H1 e1 Q1 q1 p hp => ⟨upd_same, sKv (formsKv.take 7), rfl, by show 7 ≤ 15; decide, ?_⟩) fun p H1 hp e1 h1' => ?_
    · rw [mergeK_new _ _ (fun _ _ z => by cases z) (by decide +kernel), List.nil_append]
      exact q1 p _ hp (Ex.mut (Ex.new hp) hp) upd_same
    refine q_dput (k := .inr "swap") ev_c (ev_var rfl) ev_c h1' (by show 7 < 100000; decide) fun H2 e2 => ?_
    have e3 : Ex H (upd H2 p (.dK (putK (sKv (formsKv.take 7)) (.inr "swap") (.str "nnn")))) := Ex.mut (e1.trans e2) hp
    refine q_dput (k := .inr "close") ev_c (ev_var rfl) ev_c upd_same (by
      have : (putK (sKv (formsKv.take 7)) (.inr ("swap" : Str)) (.str "nnn")).length ≤ 8 := by
        unfold putK
        split
        · rw [List.length_map]; show 7 ≤ 8; decide
        · rw [List.length_append]; show 7 + 1 ≤ 8; decide
      omega) fun H3 e4 => ?_
    have hk8 : putK (sKv (formsKv.take 7)) (.inr ("swap" : Str)) (.str "nnn") = sKv (formsKv.take 8) := putK_new (by rw [valV_sKv]; unfold getD'; rw [Option.map_eq_none_iff, List.find?_eq_none]; simp only [formsKv, List.take, List.forall_mem_cons]; refine ⟨?_, ?_, ?_, ?_, ?_, ?_, ?_, fun _ h => nomatch h⟩ <;> decide +kernel)
    have hk9 : putK (sKv (formsKv.take 8)) (.inr ("close" : Str)) (.str "n") = sKv formsKv := putK_new (by rw [valV_sKv]; unfold getD'; rw [Option.map_eq_none_iff, List.find?_eq_none]; simp only [formsKv, List.take, List.forall_mem_cons]; refine ⟨?_, ?_, ?_, ?_, ?_, ?_, ?_, ?_, fun _ h => nomatch h⟩ <;> decide +kernel)
    have e5 : Ex H (upd H3 p (.dK (putK (putK (sKv (formsKv.take 7)) (.inr "swap") (.str "nnn")) (.inr "close") (.str "n")))) := Ex.mut (e3.trans e4) hp
    rw [hk8] at e5 ⊢
    rw [hk9] at e5 ⊢
    have hS := ex_l e5 hS
    have hd : (upd H3 p (.dK (sKv formsKv))) p = some (.dK (sKv formsKv)) := upd_same
    generalize upd H3 p (.dK (sKv formsKv)) = H4 at e5 hS hd
    refine q_when (b := lfound ws) ?_ (fun hb H5 e6 => ?_) (fun hb H5 e6 => ?_)
    · unfold lfound
      have e0 : decide (ws[0]? = some foundS) = decide (V.str ws[0] = V.str foundS) := by rw [str_eq, h0]; exact decide_eq_decide.mpr Option.some_inj
      rw [e0]
      refine et_and (et_test (ev_op (ev_op (ev_var rfl) ev_c (rv_ixL hS (nth_word h0))) ev_c (rv_eq rfl))) fun _ => ?_
      by_cases h6 : 6 < ws.length
      · have h3 : ws[3]? = some ws[3] := List.getElem?_eq_getElem (by omega)
        refine et_and (et_is (et_test (ev_op (ev_len (ev_var rfl) hS) ev_c rv_I0)) (by rw [hlV]; exact decide_eq_decide.mpr (by omega))) fun _ => et_and (et_is (et_test (ev_op (ev_op (ev_len (ev_var rfl) hS) ev_c (rv_mod (by decide))) ev_c (rv_eq rfl))) (by rw [int_eq, hlV]; exact decide_eq_decide.mpr (by omega))) fun _ => ?_
        refine et_is (et_test (ev_inU (ev_op (ev_var rfl) ev_c (rv_ixL hS (nth_word h3))) (eu_tup (ea_cons ev_c (ea_cons ev_c ea_nil)) (by show 2 ≤ 100000; decide)) rfl rfl)) ?_
        have e1 : decide (some ws[3] = some plainS) = decide (ws[3] = plainS) := decide_eq_decide.mpr Option.some_inj
        have e2 : decide (some ws[3] = some bidsS) = decide (ws[3] = bidsS) := decide_eq_decide.mpr Option.some_inj
        rw [h3, e1, e2]
        show (eqV (V.str plainS) (V.str ws[3]) || (eqV (V.str bidsS) (V.str ws[3]) || false)) = _
        rw [eqV_str, eqV_str, Bool.or_false]
      · refine et_is (et_and (a := false) (b := false) (et_is (et_test (ev_op (ev_len (ev_var rfl) hS) ev_c rv_I0)) (by rw [hlV]; exact decide_eq_false (by omega))) fun h => by cases h) (by rw [decide_eq_false h6]; rfl)
    · have hb' := hb
      unfold lfound at hb'
      simp only [Bool.and_eq_true, Bool.or_eq_true, decide_eq_true_eq] at hb'
      obtain ⟨_, l1, l2, _⟩ := hb'
      have hk : ((ws.length : Int) - 4) / 3 = (k3 ws : Int) := by unfold k3; omega
      have hk1 : 1 ≤ k3 ws := by unfold k3; omega
      have hk2 : k3 ws ≤ 20000 := by have := hws.2; unfold k3; omega
      have t3 : tl (Str.ofString "ncc") = [110, 99, 99] := by decide +kernel
      have hlm : (Txt.mul (Str.ofString "ncc") (k3 ws : Int)).length ≤ 60000 := by
        rw [len_tl, tl_rep hk1, t3, List.length_flatten, List.map_replicate, List.sum_replicate_nat]
        show k3 ws * 3 ≤ 60000
        omega
      refine s_ret (v := .str ((Str.ofString "nc" ++ Str.ofString "w") ++ Txt.mul (Str.ofString "ncc") (k3 ws : Int))) (ev_addS (ev_addS ev_c ev_c (by decide +kernel)) (ev_op (x := .str (Str.ofString "ncc")) (y := .int (k3 ws : Int)) ev_c (ev_is (ev_op (ev_op (ev_len (ev_var rfl) (ex_l e6 hS)) ev_c rv_I0) ev_c (rv_div (by decide) (by decide))) (by rw [hlV, hk])) (rv_rep (mulOk_small (by decide +kernel) hk2))) ?_) fun H6 e7 => q H6 _ ((e5.trans e6).trans e7) ?_
      · have : ((Str.ofString "nc") ++ (Str.ofString "w")).length = 3 := by decide +kernel
        omega
      · rw [tl_append, tl_append, tl_rep hk1, t3]
        unfold shapeL
        rw [if_pos hb]
        rfl
    · refine s_ret (v := .str (((formOf ws[0]).getD Str.empty))) ?_ fun H6 e7 => q H6 _ ((e5.trans e6).trans e7) ?_
      · refine fun H6 e7 Q6 q6 => ?_
        refine (ev_var rfl : Ev _ _ H6 (.ref p)) H6 (Ex.refl _) _ fun H7 e8 => ⟨p, rfl, .inl ⟨_, .inl (((e6.trans e7).trans e8) _ _ hd)⟩, ?_⟩
        refine (ev_op (ev_var rfl) ev_c (rv_ixL (ex_l ((e6.trans e7).trans e8) hS) (nth_word h0)) : Ev _ _ H7 (.str ws[0])) H7 (Ex.refl _) _ fun H8 e9 => ?_
        refine ⟨_, DGet.k (k := .inr ws[0]) ((((e6.trans e7).trans e8).trans e9) _ _ hd), ?_⟩
        have : (valV (sKv formsKv) (.inr ws[0])).getD (V.str "") = .str ((formOf ws[0]).getD Str.empty) := by
          rw [valV_sKv]
          cases hf : formOf ws[0] with
          | none => rw [formOf_none hf]; rfl
          | some g => rw [(formOf_some hf).1]; rfl
        rw [this]
        exact q6 _ (e8.trans e9)
      · unfold shapeL
        rw [if_neg (by rw [hb]; exact Bool.false_ne_true), h0]
        show _ = ((formOf ws[0]).map tl).getD []
        cases formOf ws[0] <;> rfl
def spRead (K : PySem.W.Frag) : Sp := fun vs H Q _ => ∃ z : Str, vs = [.str z] ∧ z.length ≤ 20000 ∧ (∀ d, deedR (Txt.split z (Str.ofString " ")) = some d → ∀ H' v, Ex H H' → Dp K H' v d → Q v H') ∧ (deedR (Txt.split z (Str.ofString " ")) = none → ∀ H', Ex H H' → Q .non H')
theorem rdOne_no {c : Nat} {z : Str} (h : rdOne c z = none) : (c = 110 ∧ isNameB z = false) ∨ (c = 99 ∧ numB z = false) := by
  unfold rdOne at h
  split at h
  · rename_i hc
    split at h
    · cases h
    · rename_i hb
      exact .inl ⟨hc, by simpa using hb⟩
  · split at h
    · rename_i hc
      split at h
      · cases h
      · rename_i hb
        exact .inr ⟨hc, by simpa using hb⟩
    · cases h
theorem rdOne_yes {c : Nat} {z : Str} {p : DW} (h : rdOne c z = some p) : (c = 110 → isNameB z = true) ∧ (c = 99 → numB z = true) ∧ p.v = if c = 99 then .int (valT z) else .str z := by
  unfold rdOne at h
  split at h
  · rename_i hc
    split at h
    · rename_i hb
      obtain rfl := Option.some.inj h
      exact ⟨fun _ => hb, fun e => by omega, by rw [if_neg (by omega)]; rfl⟩
    · cases h
  · rename_i hn
    split at h
    · rename_i hc
      split at h
      · rename_i hb
        obtain rfl := Option.some.inj h
        exact ⟨fun e => absurd e hn, fun _ => hb, by rw [if_pos hc]; rfl⟩
      · cases h
    · rename_i hc
      obtain rfl := Option.some.inj h
      exact ⟨fun e => absurd e hn, fun e => absurd e hc, by rw [if_neg hc]; rfl⟩
theorem sign_eq {c k : Nat} {s : Str} (h : s = ⟨#[k]⟩) : decide (V.str (⟨#[c]⟩ : Str) = V.str s) = decide (c = k) := by
  rw [str_eq, h]
  exact decide_eq_decide.mpr ⟨fun e => by
    have : tl (⟨#[c]⟩ : Str) = tl (⟨#[k]⟩ : Str) := congrArg tl e
    have h3 : [c] = [k] := this
    simpa using h3, fun e => by rw [e]⟩
theorem ok__law_read {f : Addr} {fd : FuncData} (F : Fun K "_law_read" "_law_read" s__law_read f fd) (T : Top K mg) : FnOk P w K mg base CX0 2 f fd ["_law_line_here"] (spRead K) := by
  have nd := sc__law_read.nd
  have G__law_shape : FnOk P w K mg base CX0 1 T.f__law_shape T.fd__law_shape ["_law_words"] (spShape K) := ok__law_shape T.F__law_shape T
  have G__law_is_name : FnOk P w K mg base CX0 1 T.f__law_is_name T.fd__law_is_name ["_law_word"] spIsName := ok__law_is_name T.F__law_is_name T
  have G__law_is_number : FnOk P w K mg base CX0 1 T.f__law_is_number T.fd__law_is_number ["_law_word"] spIsNum := ok__law_is_number T.F__law_is_number T
  refine F.ok sc__law_read (fun vs H Q E h => ?_) (fun cdv A outer s H vs Q E hr h => ?_)
  · obtain ⟨z, rfl, _⟩ := h
    rfl
  · obtain ⟨z, rfl, hz, q, qx⟩ := h
    obtain ⟨⟨w1, w2⟩, w3⟩ := split_blank_len z
    refine ⟨_, (pss_cons (ps_set (i := 1) nd rfl (.inl rfl) (pe_split (pv 0) pe_str))
      (pss_cons (ps_set (i := 2) nd rfl (.inl rfl) (pe_call G__law_shape (hr.mono (by omega)) (by rfl) T.m__law_shape T.F__law_shape.kp T.b__law_shape .nil pass0 (pa_cons (pv 1) pa_nil)))
      (pss_cons (ps_if (PW.pt (pw_or (pt_cmpR op_eq (pv 2) pe_str (nomark _)) (pw_or1 (pt_cmpR op_ne (pe_callB call_len_seq (by rfl) T.m_len PySem.boot_len (pa_cons (pv 1) pa_nil)) (pe_op op_add (pe_callB call_len_str (by rfl) T.m_len PySem.boot_len (pa_cons (pv 2) pa_nil)) pe_int) (nomark _)))))
        (pss_one (ps_ret pe_non))
        pss_nil)
      (pss_cons (ps_set (i := 3) nd rfl (.inr rfl) (pe_lst (pa_cons (pe_ix ix_list (pv 1) pe_int (fun _ _ => rfl)) pa_nil)))
      (pss_cons (ps_for PassesOwn.never rfl (pi_zipT (by rfl) T.m_zip (pa_cons (pv 2) (pa_cons (pe_slice sl_list (pv 1) (po_some pe_int) po_none) pa_nil))) (pg_tup rfl (pgs_cons (pg_name (i := 4) nd rfl (.inl rfl)) (pgs_cons (pg_name (i := 5) nd rfl (.inl rfl)) pgs_nil)))
        (pss_cons (ps_if (PW.pt (pw_or (PW.pt (pw_and (pt_cmpR op_eq (pv 4) pe_str (nomark _)) (pw_and1 (pt_not (pt_val (pe_call G__law_is_name (hr.mono (by omega)) (by rfl) T.m__law_is_name T.F__law_is_name.kp T.b__law_is_name .nil pass0 (pa_cons (pv 5) pa_nil))))))) (pw_or1 (PW.pt (pw_and (pt_cmpR op_eq (pv 4) pe_str (nomark _)) (pw_and1 (pt_not (pt_val (pe_call G__law_is_number (hr.mono (by omega)) (by rfl) T.m__law_is_number T.F__law_is_number.kp T.b__law_is_number .nil pass0 (pa_cons (pv 5) pa_nil))))))))))
            (pss_one (ps_ret pe_non))
            pss_nil)
          (pss_one (ps_if (pt_cmpR op_eq (pv 4) pe_str (nomark _))
            (pss_one (ps_expr (pe_bm PySem.F.plainAttrs_list PySem.F.slot_list_append PySem.F.type_list_append mt_append (pv 3) (pa_cons (pe_callTy call_int_str (by rfl) T.m_int (by decide +kernel) (pa_cons (pv 5) pa_nil)) pa_nil))))
            (pss_one (ps_expr (pe_bm PySem.F.plainAttrs_list PySem.F.slot_list_append PySem.F.type_list_append mt_append (pv 3) (pa_cons (pv 5) pa_nil))))))))
      (pss_cons (ps_if (pt_cmpR op_ne (pe_ix ix_list (pv 1) pe_int (fun _ _ => rfl)) pe_str (nomark _))
        (pss_one (ps_ret (pe_callTy call_tuple_of (by rfl) T.m_tuple (by decide +kernel) (pa_cons (pv 3) pa_nil))))
        pss_nil)
      (pss_cons (ps_setLc (i := 6) (own := [("_law_at", 7)]) (g := gName 7) (tt := tYes) rfl nd rfl rfl (sw_true rfl rfl rfl (by decide +kernel)) (pi_range3 rfl T.m_range (pa_cons pe_int (pa_cons (pe_callB call_len_seq (by rfl) T.m_len PySem.boot_len (pa_cons (pv 3) pa_nil)) (pa_cons pe_int pa_nil)))) (blkOk_by (own := [("_law_at", 7)]) (N := Su.N__law_read) (sc := defScope s__law_read) (by decide +kernel)) (fun _ _ _ _ _ => (pg_name (i := 7) nd rfl (.inl rfl))) (fun _ _ _ _ _ => pts_nil) (fun _ _ _ _ _ => (pe_tup (pa_cons (pe_ix (ix_listK (K := K) rfl) (pv 3) (pv 7) (fun _ _ => rfl)) (pa_cons (pe_ix (ix_listK (K := K) rfl) (pv 3) (pe_op op_add (pv 7) pe_int) (fun _ _ => rfl)) (pa_cons (pe_ix (ix_listK (K := K) rfl) (pv 3) (pe_op op_add (pv 7) pe_int) (fun _ _ => rfl)) pa_nil))))))
      (pss_one (ps_ret (pe_tup (pa_cons (pe_ix ix_list (pv 3) pe_int (fun _ _ => rfl)) (pa_cons (pe_ix ix_list (pv 3) pe_int (fun _ _ => rfl)) (pa_cons (pe_ix ix_list (pv 3) pe_int (fun _ _ => rfl)) (pa_cons (pe_cmpR op_eq (pe_ix ix_list (pv 3) pe_int (fun _ _ => rfl)) pe_str (nomark _)) (pa_cons (pe_callTy call_tuple_of (by rfl) T.m_tuple (by decide +kernel) (pa_cons (pv 6) pa_nil)) pa_nil))))))))))))))), ?_⟩
    refine q_asgL (el_split (ev_var rfl) ev_c (by decide +kernel) (by omega) rfl) fun a H1 ha e1 h1 => ?_
    generalize Txt.split z (Str.ofString " ") = ws at w1 w2 w3 h1 q qx
    have hS : SqL K H1 a (ws.map V.str) := sq_of h1
    have hws : WsOk ws := ⟨fun x hx => Nat.le_trans (w3 x hx) hz, by omega⟩
    rw [read_eq ws w1] at q qx
    refine q_callQ (ea_cons (ev_var rfl) ea_nil) fun H2 e2 => ⟨a, ws, rfl, ex_l e2 hS, hws, w1, fun H3 sh e3 hsh => ?_⟩
    have hS := ex_l (e2.trans e3) hS
    have e13 := (e1.trans e2).trans e3
    have hshl : sh.length = (shapeL ws).length := by rw [len_tl, hsh]
    have hshl2 : sh.length ≤ 60010 := by
      rw [hshl]
      unfold shapeL
      split
      · rw [List.length_append, List.length_append, List.length_flatten, List.map_replicate, List.sum_replicate_nat]
        show 2 + (1 + k3 ws * 3) ≤ _
        have := hws.2
        unfold k3
        omega
      · cases hf : ws[0]?.bind formOf with
        | none => exact Nat.zero_le _
        | some g =>
          obtain ⟨x, _, hx⟩ := Option.bind_eq_some_iff.mp hf
          have := (formOf_some hx).2.1
          show (tl g).length ≤ _
          rw [← len_tl]
          omega
    dsimp only
    show tSeq _ _ _ [some (.str z), some (.ref a), some (.str sh), none, none, none, none, none] H3
    by_cases hbad : shapeL ws = [] ∨ ws.length ≠ (shapeL ws).length + 1
    · have hp : partsR ws = none := by unfold partsR; rw [if_pos hbad]
      refine q_when (b := true) (et_is (b := true) (et_or (a := decide (sh = Str.ofString "")) (b := !decide ((ws.map V.str).length = (sh.length : Int) + 1)) (et_is (et_test (ev_op (ev_var rfl) ev_c (rv_eq rfl))) (by rw [str_eq])) fun _ => et_is (et_test (ev_op (ev_len (ev_var rfl) hS) (ev_op (ev_cb (ea_cons (ev_var rfl) ea_nil) (rc_lenS (by omega))) ev_c rv_I0) (rv_ne rfl))) (by rw [int_eq])) ?_) (fun _ H4 e4 => s_ret ev_c fun H5 e5 => qx (by rw [hp]; rfl) H5 ((e13.trans e4).trans e5)) (fun h => by cases h)
      rcases hbad with hb | hb
      · rw [decide_eq_true (ext_tl (by rw [hsh, hb]; decide +kernel)), Bool.true_or]
      · have hl : decide ((ws.length : Int) = (sh.length : Int) + 1) = false := decide_eq_false (by rw [hshl]; omega)
        rw [List.length_map, hl]
        exact Bool.or_true _
    have hne : shapeL ws ≠ [] := fun z => hbad (.inl z)
    have hwl : ws.length = (shapeL ws).length + 1 := by
      by_cases h : ws.length = (shapeL ws).length + 1
      · exact h
      · exact absurd (.inr h) hbad
    have hp : partsR ws = rdAll ((shapeL ws).zip (ws.drop 1)) := by unfold partsR; rw [if_neg hbad]
    refine q_when (b := false) (et_is (b := false) (et_or (a := decide (sh = Str.ofString "")) (b := !decide ((ws.map V.str).length = (sh.length : Int) + 1)) (et_is (et_test (ev_op (ev_var rfl) ev_c (rv_eq rfl))) (by rw [str_eq])) fun _ => et_is (et_test (ev_op (ev_len (ev_var rfl) hS) (ev_op (ev_cb (ea_cons (ev_var rfl) ea_nil) (rc_lenS (by omega))) ev_c rv_I0) (rv_ne rfl))) (by rw [int_eq])) ?_) (fun h => by cases h) fun _ H4 e4 => ?_
    · have hl1 : decide ((ws.length : Int) = (sh.length : Int) + 1) = true := decide_eq_true (by rw [hshl]; omega)
      have hl2 : decide (sh = Str.ofString "") = false := decide_eq_false fun z => hne (by rw [← hsh, z]; decide +kernel)
      rw [List.length_map, hl1, hl2]
      rfl
    have hS := ex_l e4 hS
    have h0 : ws[0]? = some ws[0] := List.getElem?_eq_getElem (by omega)
    refine q_asgL (el_lst (vs := [.str ws[0]]) (ea_cons (ev_op (ev_var rfl) ev_c (rv_ixL hS (nth_word h0))) ea_nil) (by show 1 ≤ 100000; decide)) fun pp H5 hpp e5 h5 => ?_
    have hS := ex_l e5 hS
    have hlz : ((ws.drop 1).map V.str).length = sh.cps.size := by
      rw [List.length_map, List.length_drop]
      show _ = sh.length
      omega
    have gz : ∀ {i : Nat} {x : V} {c : Nat}, ((ws.drop 1).map V.str)[i]? = some x → sh.cps[i]? = some c → ∃ y, x = .str y ∧ y.length ≤ 20000 ∧ ((shapeL ws).zip (ws.drop 1))[i]? = some (c, y) := fun {i x c} gx gc => by
      rw [List.getElem?_map] at gx
      obtain ⟨y, gw, rfl⟩ := Option.map_eq_some_iff.mp gx
      have gs : (shapeL ws)[i]? = some c := by
        rw [← hsh]
        show sh.cps.toList[i]? = some c
        rw [Array.getElem?_toList]
        exact gc
      exact ⟨y, rfl, hws.1 y (List.mem_of_mem_drop (List.mem_of_getElem? gw)), by rw [List.getElem?_zip_eq_some]; exact ⟨gs, gw⟩⟩
    show tSeq _ _ _ [some (.str z), some (.ref a), some (.str sh), some (.ref pp), none, none, none, none] H5
    refine q_forZT (xs := (ws.drop 1).map V.str) (z0 := sh) (fun Q6 q6 => ?_) hlz (fun a6 i σ' H' => ∃ (ps : List DW) (y4 y5 y6 : Option V), σ' = [some (.str z), some (.ref a), some (.str sh), some (.ref pp), y4, y5, y6, none] ∧ Ex H4 H' ∧ H' a6 = some (.lst ((ws.drop 1).map V.str)) ∧ a6 ≠ pp ∧ H' pp = some (.lst (.str ws[0] :: ps.map DW.v)) ∧ rdAll (((shapeL ws).zip (ws.drop 1)).take i) = some ps ∧ ps.length = i) ?_ ?_ ?_ ?_
    · refine (ev_var rfl : Ev (tVar 2) _ H5 (.str sh)) H5 (Ex.refl _) _ fun H6 e6 => ?_
      refine (el_sl (ev_var rfl) (eo_some ev_c) eo_none (ex_l e6 hS) : EvL _ _ _ _) H6 (Ex.refl _) _ fun a6 H7 ha6 e7 h7 => ?_
      rw [show (1 : Int) = ((1 : Nat) : Int) from rfl, cut_from, ← List.map_drop] at h7
      exact (ea_nil : EvA tNil _ H7 []) H7 (Ex.refl _) _ fun H8 e8 => q6 H8 a6 ((e6.trans e7).trans e8) (fresh_back e6 ha6) (e8 _ _ h7)
    · exact fun H6 a6 e6 hn hx => ⟨[], none, none, none, rfl, e5.trans e6, hx, (fun z => by rw [z, h5] at hn; cases hn), e6 _ _ h5, rfl, rfl⟩
    · rintro a6 i σ' H' _ ⟨ps, y4, y5, y6, rfl, _, hx, _⟩
      exact hx
    · rintro a6 i x c Tt σ' Hc gx gc ⟨ps, y4, y5, y6, rfl, ex, hx6, hne6, hpp6, hrd, hpl⟩ nT
      obtain ⟨y, rfl, hy, gi⟩ := gz gx gc
      refine ⟨_, tg_two (st_of upd_same) tg_name tg_name, ?_⟩
      have eT : Ex Hc (upd Hc Tt (.tup [.str ⟨#[c]⟩, .str y])) := Ex.new nT
      have hx6 := eT _ _ hx6
      have hpp6 := eT _ _ hpp6
      have ex := ex.trans eT
      generalize upd Hc Tt (.tup [.str ⟨#[c]⟩, .str y]) = H6 at ex hx6 hpp6
      have n1 : (Str.ofString "n") = ⟨#[110]⟩ := by decide +kernel
      have n2 : (Str.ofString "c") = ⟨#[99]⟩ := by decide +kernel
      show tSeq _ _ _ [some (.str z), some (.ref a), some (.str sh), some (.ref pp), some (.str ⟨#[c]⟩), some (.str y), y6, none] H6
      refine q_when (b := (decide (c = 110) && !isNameB y) || (decide (c = 99) && !numB y)) (et_or (et_and (et_is (et_test (ev_op (ev_var rfl) ev_c (rv_eq rfl))) (sign_eq n1)) fun _ => et_not (et_B (ev_call (ea_cons (ev_var rfl) ea_nil) (spV_isName (by omega))))) fun _ => et_and (et_is (et_test (ev_op (ev_var rfl) ev_c (rv_eq rfl))) (sign_eq n2)) fun _ => et_not (et_B (ev_call (ea_cons (ev_var rfl) ea_nil) (spV_isNum (by omega))))) (fun hb H7 e7 => ?_) (fun hb H7 e7 => ?_)
      · refine s_ret ev_c fun H8 e8 => qx ?_ H8 (((e13.trans e4).trans ex).trans (e7.trans e8))
        have hno : rdOne c y = none := by
          cases hr : rdOne c y with
          | none => rfl
          | some p =>
            obtain ⟨r1, r2, _⟩ := rdOne_yes hr
            by_cases h110 : c = 110
            · rw [r1 h110, decide_eq_true h110, decide_eq_false (by omega)] at hb
              cases hb
            · by_cases h99 : c = 99
              · rw [r2 h99, decide_eq_true h99, decide_eq_false h110] at hb
                cases hb
              · rw [decide_eq_false h99, decide_eq_false h110] at hb
                cases hb
        rw [hp, rdAll_bad gi hno]
        rfl
      obtain ⟨p, hr⟩ : ∃ p, rdOne c y = some p := by
        cases hr : rdOne c y with
        | some p => exact ⟨p, rfl⟩
        | none =>
          rcases rdOne_no hr with ⟨h1, h2⟩ | ⟨h1, h2⟩
          · rw [h2, decide_eq_true h1] at hb
            cases hb
          · rw [h2, decide_eq_true h1, decide_eq_false (by omega)] at hb
            cases hb
      obtain ⟨_, r2, rv⟩ := rdOne_yes hr
      have hpl2 : (V.str ws[0] :: ps.map DW.v).length < 100000 := by
        rw [List.length_cons, List.length_map, hpl]
        have := (List.getElem?_eq_some_iff.mp gx).1
        rw [List.length_map, List.length_drop] at this
        omega
      have fin : ∀ {H8 : Hp} {v : V}, Ex H7 H8 → p.v = v → ∃ (ps' : List DW) (y4 y5 y6' : Option V), [some (V.str z), some (.ref a), some (.str sh), some (.ref pp), some (.str ⟨#[c]⟩), some (.str y), y6, none] = [some (V.str z), some (.ref a), some (.str sh), some (.ref pp), y4, y5, y6', (none : Option V)] ∧ Ex H4 (upd H8 pp (.lst ((V.str ws[0] :: ps.map DW.v) ++ [v]))) ∧ (upd H8 pp (.lst ((V.str ws[0] :: ps.map DW.v) ++ [v]))) a6 = some (.lst ((ws.drop 1).map V.str)) ∧ a6 ≠ pp ∧ (upd H8 pp (.lst ((V.str ws[0] :: ps.map DW.v) ++ [v]))) pp = some (.lst (.str ws[0] :: ps'.map DW.v)) ∧ rdAll (((shapeL ws).zip (ws.drop 1)).take (i + 1)) = some ps' ∧ ps'.length = i + 1 := fun {H8 v} e8 hv => by
        refine ⟨ps ++ [p], _, _, _, rfl, Ex.mut (ex.trans (e7.trans e8)) hpp, ?_, hne6, ?_, rdAll_take gi hrd hr, by rw [List.length_append, hpl]; rfl⟩
        · rw [upd_ne hne6]
          exact (e7.trans e8) _ _ hx6
        · rw [upd_same, List.map_append, ← hv]
          rfl
      refine s_if (b := decide (c = 99)) (et_is (et_test (ev_op (ev_var rfl) ev_c (rv_eq rfl))) (sign_eq n2)) (fun hc H8 e8 => ?_) (fun hc H8 e8 => ?_)
      · have h99 := of_decide_eq_true hc
        have hn := r2 h99
        unfold numB at hn
        rw [Bool.and_eq_true] at hn
        rw [if_pos h99] at rv
        exact s_app ((e7.trans e8) _ _ hpp6) (ev_var rfl) (ev_cb (ea_cons (ev_var rfl) ea_nil) (rc_intS (digB_reads hn.1) (by have := (digB_len hn.1).2; omega))) hpl2 fun H9 e9 => fin (e8.trans e9) rv
      · rw [if_neg (of_decide_eq_false hc)] at rv
        exact s_app ((e7.trans e8) _ _ hpp6) (ev_var rfl) (ev_var rfl) hpl2 fun H9 e9 => fin (e8.trans e9) rv
    · rintro a6 σ' H6 ⟨ps, y4, y5, y6, rfl, ex, _, _, hpp6, hrd, hpl⟩
      have hzl : ((shapeL ws).zip (ws.drop 1)).length = ((ws.drop 1).map V.str).length := by rw [List.length_zip, List.length_map, List.length_drop]; omega
      rw [List.take_of_length_le (by rw [hzl]; exact Nat.le_refl _)] at hrd
      rw [List.length_map, List.length_drop] at hpl
      have hps : (partsR ws).map (tupleR ws) = some (tupleR ws ps) := by rw [hp, hrd]; rfl
      have hS := ex_l ex (show SqL K H4 a (ws.map V.str) by assumption)
      have e16 := (e13.trans e4).trans ex
      refine q_when (b := !decide (ws[0] = foundS)) (et_is (et_test (ev_op (ev_op (ev_var rfl) ev_c (rv_ixL hS (nth_word h0))) ev_c (rv_ne rfl))) (by rw [str_eq])) (fun hb H7 e7 => ?_) (fun hb H7 e7 => ?_)
      · refine s_retU (eu_tupOf (ev_var rfl) (sq_of (e7 _ _ hpp6))) fun p H8 _ e8 h8 => q _ hps H8 _ (e16.trans (e7.trans e8)) ?_
        unfold tupleR
        have hnf : ¬ ws[0] = foundS := fun z => by rw [decide_eq_true z] at hb; cases hb
        rw [if_neg (by rw [h0]; exact fun z => hnf (Option.some.inj z)), h0]
        exact .tup (st_of h8) (.cons (.str _) (dpa_dw ps))
      have hf : ws[0] = foundS := by
        by_cases z : ws[0] = foundS
        · exact z
        · rw [decide_eq_false z] at hb; cases hb
      have hlf : lfound ws = true := by
        cases hl : lfound ws with
        | true => rfl
        | false =>
          refine absurd ?_ hne
          unfold shapeL
          rw [if_neg (by rw [hl]; exact Bool.false_ne_true), h0, hf]
          show (((formOf foundS)).map tl).getD [] = []
          rw [formOf_found]
          rfl
      have hsh2 : shapeL ws = [110, 99] ++ ([119] ++ (List.replicate (k3 ws) [110, 99, 99]).flatten) := by unfold shapeL; rw [if_pos hlf]
      have hlf' := hlf
      unfold lfound at hlf'
      simp only [Bool.and_eq_true, Bool.or_eq_true, decide_eq_true_eq] at hlf'
      obtain ⟨_, l1, l2, _⟩ := hlf'
      obtain ⟨w3, h3⟩ : ∃ w3, ws[3]? = some w3 := ⟨ws[3], List.getElem?_eq_getElem (by omega)⟩
      have g2 : ((shapeL ws).zip (ws.drop 1))[2]? = some (119, w3) := by
        rw [List.getElem?_zip_eq_some]
        exact ⟨by rw [hsh2]; rfl, by rw [List.getElem?_drop]; exact h3⟩
      have hp2 := (rdAll_get hrd).2 2 _ g2
      have hk : ps.length = 3 + 3 * k3 ws := by rw [hpl]; unfold k3; omega
      obtain ⟨p0, p1, p2, rest, rfl⟩ : ∃ p0 p1 p2 rest, ps = p0 :: p1 :: p2 :: rest := by
        match ps, hk with
        | [], h => simp at h; omega
        | [_], h => simp at h; omega
        | [_, _], h => simp at h; omega
        | p0 :: p1 :: p2 :: rest, _ => exact ⟨p0, p1, p2, rest, rfl⟩
      have hp2' : DW.nm w3 = p2 := Option.some.inj hp2
      subst hp2'
      have hpp7 := e7 _ _ hpp6
      have hln : (V.str ws[0] :: (p0 :: p1 :: DW.nm w3 :: rest).map DW.v).length = 4 + 3 * k3 ws := by rw [List.length_cons, List.length_map, hk]; omega
      have hk1 : 1 ≤ k3 ws := by unfold k3; omega
      have hk2 : k3 ws ≤ 20000 := by have := hws.2; unfold k3; omega
      show tSeq _ _ _ [some (.str z), some (.ref a), some (.str sh), some (.ref pp), y4, y5, y6, none] H7
      refine q_asgTs (rows := (List.range (k3 ws)).map fun i => (((p0 :: p1 :: DW.nm w3 :: rest).drop (3 + 3 * i)).take 3).map DW.v) (ets_R3 (n := k3 ws) _ (ea_cons ev_c (ea_cons (ev_len (ev_var rfl) (sq_of hpp7)) (ea_cons ev_c ea_nil))) (by rw [hln]; exact rgc_any hk2 (.inl rfl) hk1) (by omega) (fun _ => rfl) fun i Hb eb hi => ?_) fun p ts H8 hp8 e8 h8 hT => ?_
      · have hpb := eb _ _ hpp7
        have at_ : ∀ j : Nat, j < 3 → ∃ x, (p0 :: p1 :: DW.nm w3 :: rest)[3 + 3 * i + j]? = some x ∧ atI (V.str ws[0] :: (p0 :: p1 :: DW.nm w3 :: rest).map DW.v) ((4 : Int) + (i : Nat) * 3 + (j : Nat)) = some x.v := fun j hj => by
          have hlt : 3 + 3 * i + j < (p0 :: p1 :: DW.nm w3 :: rest).length := by rw [hk]; omega
          refine ⟨_, List.getElem?_eq_getElem hlt, ?_⟩
          rw [show (4 : Int) + (i : Nat) * 3 + (j : Nat) = ((3 + 3 * i + j + 1 : Nat) : Int) from by omega]
          refine atI_nat ?_
          rw [List.getElem?_cons_succ, List.getElem?_map, List.getElem?_eq_getElem hlt]
          rfl
        obtain ⟨x0, g0, a0⟩ := at_ 0 (by omega)
        obtain ⟨x1, g1, a1⟩ := at_ 1 (by omega)
        obtain ⟨x2, g2', a2⟩ := at_ 2 (by omega)
        have hrow : ((p0 :: p1 :: DW.nm w3 :: rest).drop (3 + 3 * i)).take 3 = [x0, x1, x2] := by
          apply List.ext_getElem?
          intro j
          by_cases hj : j < 3
          · rw [List.getElem?_take_of_lt hj, List.getElem?_drop]
            match j, hj with
            | 0, _ => exact g0
            | 1, _ => exact g1
            | 2, _ => exact g2'
          · rw [List.getElem?_eq_none (by rw [List.length_take]; omega), List.getElem?_eq_none (by show 3 ≤ j; omega)]
        rw [hrow]
        rw [show (4 : Int) + (i : Nat) * 3 + ((0 : Nat) : Int) = (4 : Int) + (i : Nat) * 3 from by omega] at a0
        exact eu_tup (ea_cons (ev_op (ev_var rfl) (ev_var rfl) (rv_ixL (sq_of hpb) a0)) (ea_cons (ev_op (ev_var rfl) (ev_op (ev_var rfl) ev_c rv_I0) (rv_ixL (sq_of hpb) a1)) (ea_cons (ev_op (ev_var rfl) (ev_op (ev_var rfl) ev_c rv_I0) (rv_ixL (sq_of hpb) a2)) ea_nil))) (by show 3 ≤ 100000; decide)
      have hpp8 := e8 _ _ hpp7
      have e18 := e16.trans (e7.trans e8)
      have htr : tupleR ws (p0 :: p1 :: DW.nm w3 :: rest) = .tuple [.str foundS, p0.d, p1.d, .bool (decide (ws[3]? = some bidsS)), .tuple ((List.range (k3 ws)).map fun i => .tuple ((((p0 :: p1 :: DW.nm w3 :: rest).drop (3 + 3 * i)).take 3).map DW.d))] := by
        unfold tupleR
        rw [if_pos (by rw [h0, hf]), hk, show (3 + 3 * k3 ws - 3) / 3 = k3 ws from by omega]
        rfl
      have i0 : atI (V.str ws[0] :: (p0 :: p1 :: DW.nm w3 :: rest).map DW.v) 0 = some (.str foundS) := (atI_nat (j := 0) rfl).trans (by rw [hf])
      have i1 : atI (V.str ws[0] :: (p0 :: p1 :: DW.nm w3 :: rest).map DW.v) 1 = some p0.v := atI_nat (j := 1) rfl
      have i2 : atI (V.str ws[0] :: (p0 :: p1 :: DW.nm w3 :: rest).map DW.v) 2 = some p1.v := atI_nat (j := 2) rfl
      have i3 : atI (V.str ws[0] :: (p0 :: p1 :: DW.nm w3 :: rest).map DW.v) 3 = some (.str w3) := atI_nat (j := 3) rfl
      rw [htr] at hps
      refine s_retD (K := K) (evd_tup (evad_cons (evd_str (ev_op (ev_var rfl) ev_c (rv_ixL (sq_of hpp8) i0))) (evad_cons (evd_v (ev_op (ev_var rfl) ev_c (rv_ixL (sq_of hpp8) i1)) (dw_dp p0)) (evad_cons (evd_v (ev_op (ev_var rfl) ev_c (rv_ixL (sq_of hpp8) i2)) (dw_dp p1)) (evad_cons (evd_bl (ev_is (ev_op (ev_op (ev_var rfl) ev_c (rv_ixL (sq_of hpp8) i3)) ev_c (rv_eq rfl)) ?_)) (evad_cons (evd_U (eu_tupOf (ev_var rfl) (sq_of h8)) ?_) evad_nil)))))) fun v H9 e9 hd => q _ hps H9 v (e18.trans e9) hd
      · rw [str_eq, h3]
        congr 1
        exact decide_eq_decide.mpr Option.some_inj.symm
      · have hdd : ((List.range (k3 ws)).map fun i => (((p0 :: p1 :: DW.nm w3 :: rest).drop (3 + 3 * i)).take 3).map DW.d).map PyData.tuple = (List.range (k3 ws)).map fun i => PyData.tuple ((((p0 :: p1 :: DW.nm w3 :: rest).drop (3 + 3 * i)).take 3).map DW.d) := by rw [List.map_map]; rfl
        rw [← hdd]
        refine hT.dpa (by rw [List.length_map, List.length_map]) fun i r d hr' hd' => ?_
        rw [List.getElem?_map] at hr' hd'
        obtain ⟨s, hs, rfl⟩ := Option.map_eq_some_iff.mp hr'
        rw [hs] at hd'
        obtain rfl := Option.some.inj hd'
        exact dpa_dw _
end

end Su
namespace Su
/-! ### a list turned about, tuples of eight, a choice of two -/
section
variable {X : Cx} {e st : Expr} {te ts : TE} {pos p2 : Pos}
theorem vals_rev {xs : List V} {us : List Value} (r : Vals xs us) : Vals xs.reverse us.reverse := by
  induction r with
  | nil => exact .nil
  | cons h _ ih =>
    rw [List.reverse_cons, List.reverse_cons]
    exact ih.append (.cons h .nil)
def tBack (K : PySem.W.Frag) (te ts : TE) : TE := fun σ H Q => te σ H fun x H1 => ts σ H1 fun y H2 => y = .int (-1) ∧ ∃ a xs, x = .ref a ∧ SqL K H2 a xs ∧ ∀ p, H2 p = none → Q (.ref p) (upd H2 p (.lst xs.reverse))
/-- xs[::-1] -/
theorem pe_back (he : PE X e te) (hs : PE X st ts) : PE X (.Subscript e (.Slice none none (some st) p2) pos) (tBack X.K te ts) := by
  refine ⟨fun pins s σ H Q I h => ?_⟩
  refine Subscript_ (thn (he.run pins s σ H _ I h) fun v s1 ⟨x, H1, I1, r1, q1⟩ => ?_)
  refine wpAny_Slice ?_
  rw [evalPart_none]
  refine wpAny_pure ?_
  refine wpAny_pure ?_
  rw [evalPart_some]
  refine thn (hs.run pins s1 σ H1 _ I1 q1) fun u s2 ⟨y, H2, I2, r2, q2⟩ => ?_
  obtain ⟨rfl, a, xs, rfl, hx, q⟩ := q2
  obtain ⟨t, rfl⟩ := r2
  have I4 : Inv X pins σ H2 { s2 with heap := s2.heap.push { cls := .type "slice", data := .fields #[.none, .none, .int (-1) t] } } := I2.kept (t' := s2.toks) fun b ob q => Heap.get?_push_of_some _ q
  cases r1
  obtain ⟨its, r, ht, hz⟩ := I4.list hx
  have hlen := r.length
  refine tail_any (ops := [.ref a, .ref s2.heap.objs.size]) ht.isList.typeIs slot_list_getitem.lookup ?_ (by with_unfolding_all rfl)
  refine wpAny_getItem_list_slice ht.isList (Heap.IsSliceOf.new ..) .none .none (.int (-1) t) (by simp) ?_ (by rw [List.size_toArray]; omega)
  rw [PySem.W.krv_pick]
  refine ⟨.ref _, _, I4.laid (t' := s2.toks) (o := .lst xs.reverse) (fun b ob q => Heap.get?_push_of_some _ q) (Nat.le_refl _) ?_, rfl, q _ (I4.hok.fresh (Nat.le_refl _))⟩
  exact ⟨by rw [List.length_reverse]; exact hz, _, 0, vals_rev r, Heap.get?_push_size _ rfl⟩
end
section
variable {K : PySem.W.Frag} {σ : L2.St} {H : Hp}
theorem el_back {ta tb : TE} {a : Addr} {xs : List V} (h : Ev ta σ H (.ref a)) (hx : SqL K H a xs) (hb : Ev tb σ H (.int (-1))) : EvL (tBack K ta tb) σ H xs.reverse := fun H0 e Q q => h H0 e _ fun H1 e1 => hb H1 (e.trans e1) _ fun H2 e2 => ⟨rfl, a, xs, rfl, ex_l ((e.trans e1).trans e2) hx, fun p hp => q p _ (fresh_back (e1.trans e2) hp) ((e1.trans e2).trans (Ex.new hp)) upd_same⟩
theorem tg_8 {T : Addr} {x1 x2 x3 x4 x5 x6 x7 x8 : V} {i1 i2 i3 i4 i5 i6 i7 i8 : Nat} (h : SqT K H T [x1, x2, x3, x4, x5, x6, x7, x8]) : Tgt (gTup K 8 (gCons (gName i1) (gCons (gName i2) (gCons (gName i3) (gCons (gName i4) (gCons (gName i5) (gCons (gName i6) (gCons (gName i7) (gCons (gName i8) gNil))))))))) (.ref T) σ ((((((((σ.set i1 (some x1)).set i2 (some x2)).set i3 (some x3)).set i4 (some x4)).set i5 (some x5)).set i6 (some x6)).set i7 (some x7)).set i8 (some x8)) H := fun H2 e Q q =>
  ⟨T, _, rfl, ex_t e h, rfl, x1, _, rfl, x2, _, rfl, x3, _, rfl, x4, _, rfl, x5, _, rfl, x6, _, rfl, x7, _, rfl, x8, [], rfl, rfl, q⟩
/-- {a: x, b: y}[k] -/
theorem ev_dsel2 {a1 a2 k : Str} {t1 t2 tk : TE} {v v1 v2 : V} (h1 : Ev t1 σ H v1) (h2 : Ev t2 σ H v2) (hk : Ev tk σ H (.str k)) (n12 : ¬ a1 = a2) (hv : (if k = a1 then some v1 else if k = a2 then some v2 else none) = some v) :
    Ev (tDGet (tDisp [(tC (.str a1), t1), (tC (.str a2), t2)]) tk) σ H v := fun H0 e Q q => fun p hp => by
  refine h1 _ (e.trans (Ex.new hp)) _ fun H1 e1 => h2 H1 ((e.trans (Ex.new hp)).trans e1) _ fun H3 e2 => ?_
  have e03 : Ex (upd H0 p (.dK [])) H3 := e1.trans e2
  refine ⟨e03 _ _ upd_same, [(.inr a1, v1), (.inr a2, v2)], rfl, by show 2 ≤ 15; decide, ?_⟩
  have em : mergeK [] [(Sum.inr a1, v1), (Sum.inr a2, v2)] = [((Sum.inr a1 : Key), v1), (.inr a2, v2)] := by
    have i12 : ¬ (Sum.inr a1 : Key) = .inr a2 := fun z => n12 (Sum.inr.inj z)
    unfold mergeK
    simp [putK, i12]
  have ex : Ex H0 (upd H3 p (.dK (mergeK [] [(Sum.inr a1, v1), (Sum.inr a2, v2)]))) := Ex.mut ((Ex.new hp).trans e03) hp
  refine hk _ (e.trans ex) _ fun H4 e4 => ⟨p, v, rfl, ?_, q H4 (ex.trans e4)⟩
  refine .inl ⟨_, .inr k, .inl (e4 _ _ upd_same), rfl, ?_⟩
  rw [em]
  unfold valV
  by_cases c1 : k = a1
  · rw [if_pos c1] at hv
    subst c1
    simp [← hv]
  · rw [if_neg c1] at hv
    have d1 : ¬ (Sum.inr a1 : Key) = .inr k := fun z => c1 (Sum.inr.inj z).symm
    by_cases c2 : k = a2
    · rw [if_pos c2] at hv
      subst c2
      simp [d1, ← hv]
    · rw [if_neg c2] at hv
      cases hv
end

end Su
namespace Su
open TL
/-! ### a line changed (k38) -/
def lenW (ws : List Str) : Nat := (ws.map (·.length)).sum + ws.length
theorem lenW_append (a b : List Str) : lenW (a ++ b) = lenW a + lenW b := by
  unfold lenW
  rw [List.map_append, List.sum_append, List.length_append]
  omega
theorem lenW_take (ws : List Str) (i : Nat) : lenW (ws.take i) ≤ lenW ws := by
  have := lenW_append (ws.take i) (ws.drop i)
  rw [List.take_append_drop] at this
  omega
theorem lenW_drop (ws : List Str) (i : Nat) : lenW (ws.drop i) ≤ lenW ws := by
  have := lenW_append (ws.take i) (ws.drop i)
  rw [List.take_append_drop] at this
  omega
theorem lenW_rev (ws : List Str) : lenW ws.reverse = lenW ws := by
  unfold lenW
  rw [List.map_reverse, List.sum_reverse, List.length_reverse]
theorem lenW_set (ws : List Str) (i : Nat) (w : Str) : lenW (ws.set i w) ≤ lenW ws + w.length := by
  induction ws generalizing i with
  | nil => exact Nat.zero_le _
  | cons a r ih =>
    cases i with
    | zero =>
      show lenW (w :: r) ≤ _
      unfold lenW
      simp only [List.map_cons, List.sum_cons, List.length_cons]
      omega
    | succ i =>
      have := ih i
      show lenW (a :: r.set i w) ≤ _
      unfold lenW at this ⊢
      simp only [List.map_cons, List.sum_cons, List.length_cons]
      omega
theorem spl_hit1 {c : Nat} {r acc : List Nat} : spl [32] 0 acc (c :: r) = if c = 32 then acc :: spl [32] 0 [] r else spl [32] 0 (acc ++ [c]) r := by
  show (if pre [32] (c :: r) = true then acc :: spl [32] ([32].length - 1) [] r else spl [32] 0 (acc ++ [c]) r) = _
  have e : pre [32] (c :: r) = decide (c = 32) := by
    by_cases h : c = 32
    · subst h
      rw [decide_eq_true rfl]
      rfl
    · rw [decide_eq_false h]
      simp [pre]
      exact h
  rw [e]
  by_cases h : c = 32
  · rw [decide_eq_true h, if_pos rfl, if_pos h]
    rfl
  · rw [decide_eq_false h, if_neg Bool.false_ne_true, if_neg h]
theorem spl_all : ∀ (l acc : List Nat), 32 ∉ acc → ((spl [32] 0 acc l).map List.length).sum + (spl [32] 0 acc l).length = acc.length + l.length + 1 ∧ (spl [32] 0 acc l).length = l.count 32 + 1 ∧ ∀ w ∈ spl [32] 0 acc l, 32 ∉ w
  | [], acc, h => by
    rw [spl_nil]
    exact ⟨by simp, by simp, fun w hw => by rw [List.mem_singleton.mp hw]; exact h⟩
  | c :: r, acc, h => by
    rw [spl_hit1]
    by_cases hc : c = 32
    · subst hc
      rw [if_pos rfl]
      obtain ⟨h1, h2, h3⟩ := spl_all r [] (List.not_mem_nil)
      refine ⟨?_, by rw [List.length_cons, h2, List.count_cons_self], fun w hw => ?_⟩
      · simp only [List.map_cons, List.sum_cons, List.length_cons, List.length_nil] at h1 ⊢
        omega
      · rcases List.mem_cons.mp hw with rfl | hw
        · exact h
        · exact h3 w hw
    · rw [if_neg hc]
      obtain ⟨h1, h2, h3⟩ := spl_all r (acc ++ [c]) (by simp [h]; exact fun z => hc z.symm)
      refine ⟨?_, by rw [h2, List.count_cons_of_ne hc], h3⟩
      rw [List.length_append] at h1
      rw [h1]
      simp only [List.length_cons, List.length_nil]
      omega
def blanks (z : Str) : Nat := (tl z).count 32
theorem blank_tl : tl (Str.ofString " ") = [32] := by decide +kernel
theorem split_all (z : Str) : lenW (Txt.split z (Str.ofString " ")) = z.length + 1 ∧ (Txt.split z (Str.ofString " ")).length = blanks z + 1 ∧ ∀ w ∈ Txt.split z (Str.ofString " "), blanks w = 0 := by
  have e := split_spl z (Str.ofString " ") (by decide +kernel) (kind_all (by decide +kernel) z)
  rw [blank_tl] at e
  obtain ⟨h1, h2, h3⟩ := spl_all (tl z) [] List.not_mem_nil
  rw [← e, List.length_map] at h2
  rw [← e, List.length_map, List.map_map] at h1
  refine ⟨?_, h2, fun w hw => ?_⟩
  · unfold lenW
    have : (fun w : Str => w.length) = List.length ∘ tl := funext fun w => len_tl w
    rw [this, h1, List.length_nil, Nat.zero_add, len_tl]
  · exact List.count_eq_zero.mpr (h3 (tl w) (e ▸ List.mem_map_of_mem hw))
theorem joinL_all : ∀ ws : List (List Nat), ws ≠ [] → (joinL [32] ws).length + 1 = (ws.map List.length).sum + ws.length ∧ ((∀ w ∈ ws, w.count 32 = 0) → (joinL [32] ws).count 32 + 1 = ws.length)
  | [], h => absurd rfl h
  | [a], _ => by
    refine ⟨?_, fun h => ?_⟩
    · show a.length + 1 = ([a].map List.length).sum + 1
      simp
    · show a.count 32 + 1 = 1
      rw [h a List.mem_cons_self]
  | a :: b :: r, _ => by
    obtain ⟨h1, h2⟩ := joinL_all (b :: r) (by simp)
    have e : joinL [32] (a :: b :: r) = a ++ ([32] ++ joinL [32] (b :: r)) := rfl
    refine ⟨?_, fun h => ?_⟩
    · rw [e, List.length_append, List.length_append]
      simp only [List.map_cons, List.sum_cons, List.length_cons, List.length_nil] at h1 ⊢
      omega
    · have := h2 fun w hw => h w (List.mem_cons_of_mem _ hw)
      rw [e, List.count_append, List.count_append, h a List.mem_cons_self, List.length_cons]
      have e1 : List.count 32 [32] = 1 := by decide
      omega
theorem join_all (ws : List Str) : (Txt.join (Str.ofString " ") ws).length ≤ lenW ws ∧ ((∀ w ∈ ws, blanks w = 0) → blanks (Txt.join (Str.ofString " ") ws) ≤ ws.length) := by
  have e : tl (Txt.join (Str.ofString " ") ws) = joinL [32] (ws.map tl) := by rw [join_eq, tl_join, blank_tl]
  unfold blanks
  rw [len_tl, e]
  by_cases hn : ws = []
  · subst hn
    exact ⟨Nat.zero_le _, fun _ => Nat.zero_le _⟩
  obtain ⟨h1, h2⟩ := joinL_all (ws.map tl) (by simpa using hn)
  rw [List.length_map] at h1 h2
  refine ⟨?_, fun h => ?_⟩
  · unfold lenW
    have : (fun w : Str => w.length) = List.length ∘ tl := funext fun w => len_tl w
    rw [this, ← List.map_map]
    omega
  · have := h2 fun w hw => by
      obtain ⟨x, hx, rfl⟩ := List.mem_map.mp hw
      exact h x hx
    omega
theorem tl_cutFrom' {z : Str} {p : Nat} : tl (cutS z (some ((p : Int) + 1)) none) = (tl z).drop (p + 1) := by
  rw [show ((p : Int) + 1) = ((p + 1 : Nat) : Int) from by omega]
  exact tl_cutFrom
theorem count_le {l : List Nat} (p : Nat) : (l.take p).count 32 + (l.drop p).count 32 = l.count 32 := by
  rw [← List.count_append, List.take_append_drop]
theorem count_drop {l : List Nat} (p : Nat) : (l.drop (p + 1)).count 32 ≤ (l.drop p).count 32 := by
  rw [show p + 1 = p + 1 from rfl, ← List.drop_drop]
  exact List.Sublist.count_le _ (List.drop_sublist _ _)
theorem cutT (ws : List Str) (k : Nat) : cutV (ws.map V.str) none (some (k : Int)) = (ws.take k).map V.str := by rw [cut_to, List.map_take]
theorem cutD (ws : List Str) (k : Nat) : cutV (ws.map V.str) (some (k : Int)) none = (ws.drop k).map V.str := by rw [cut_from, List.map_drop]
theorem cutM (ws : List Str) (i j : Nat) (h : i ≤ j) : cutV (ws.map V.str) (some (i : Int)) (some (j : Int)) = ((ws.drop i).take (j - i)).map V.str := by rw [cut_mid _ _ _ h, ← List.map_drop, ← List.map_take]

end Su
namespace Su
open TL
/-- the data that a reading gives is plain -/
theorem pl_dw {n : Nat} (p : DW) : PlD n p.d := by
  cases p with
  | nm s => exact .str s
  | no i => exact .int i
theorem pl_deedR {ws : List Str} {d : PyData} (h : deedR ws = some d) (hl : ws.length ≤ 1000) : PlD 3 d := by
  unfold deedR at h
  cases h0 : ws[0]? with
  | none => rw [h0] at h; cases h
  | some z =>
    rw [h0] at h
    have h : (if z = foundS then foundR ws else (formOf z).bind fun f => (rdWords (ws.drop 1) (tl f)).map fun ps => .tuple (.str z :: ps.map DW.d)) = some d := h
    split at h
    · unfold foundR at h
      split at h
      · obtain ⟨hd, h1, h⟩ := Option.bind_eq_some_iff.mp h
        obtain ⟨rows, h2, rfl⟩ := Option.map_eq_some_iff.mp h
        have l1 := rdw_len h1
        have ho := optAll_some h2
        have hrl : rows.length = seatsN ws := by
          have := congrArg List.length ho
          rw [List.length_map, List.length_map, List.length_range] at this
          exact this.symm
        have hrows : ∀ r ∈ rows, r.length = 3 := fun r hr => by
          have : some r ∈ (List.range (seatsN ws)).map fun i => rdWords (chunkAt ws i) [110, 99, 99] := by rw [ho]; exact List.mem_map_of_mem hr
          obtain ⟨i, _, e⟩ := List.mem_map.mp this
          exact rdw_len e
        unfold foundD
        refine .tuple (by rw [List.length_cons, List.length_append, List.length_map, l1]; show 2 + 2 + 1 ≤ 1000; decide) fun x hx => ?_
        rcases List.mem_cons.mp hx with rfl | hx
        · exact .str _
        rcases List.mem_append.mp hx with hx | hx
        · obtain ⟨p, _, rfl⟩ := List.mem_map.mp hx
          exact pl_dw p
        rcases List.mem_cons.mp hx with rfl | hx
        · exact .bool _
        · obtain rfl := List.mem_singleton.mp hx
          refine .tuple (by rw [List.length_map, hrl]; unfold seatsN; omega) fun y hy => ?_
          obtain ⟨r, hr, rfl⟩ := List.mem_map.mp hy
          refine .tuple (by rw [List.length_map, hrows r hr]; decide) fun q hq => ?_
          obtain ⟨p, _, rfl⟩ := List.mem_map.mp hq
          exact pl_dw p
      · cases h
    · obtain ⟨f, h1, h⟩ := Option.bind_eq_some_iff.mp h
      obtain ⟨ps, h2, rfl⟩ := Option.map_eq_some_iff.mp h
      have l1 := rdw_len h2
      have l2 := (formOf_some h1).2.1
      refine .tuple (by rw [List.length_cons, List.length_map, l1, ← len_tl]; omega) fun x hx => ?_
      rcases List.mem_cons.mp hx with rfl | hx
      · exact .str _
      · obtain ⟨p, _, rfl⟩ := List.mem_map.mp hx
        exact pl_dw p
theorem deedR_tup {ws : List Str} {d : PyData} (h : deedR ws = some d) : ∃ xs, d = .tuple xs := by
  unfold deedR at h
  cases h0 : ws[0]? with
  | none => rw [h0] at h; cases h
  | some z =>
    rw [h0] at h
    have h : (if z = foundS then foundR ws else (formOf z).bind fun f => (rdWords (ws.drop 1) (tl f)).map fun ps => .tuple (.str z :: ps.map DW.d)) = some d := h
    split at h
    · unfold foundR at h
      split at h
      · obtain ⟨hd, h1, h⟩ := Option.bind_eq_some_iff.mp h
        obtain ⟨rows, h2, rfl⟩ := Option.map_eq_some_iff.mp h
        exact ⟨_, rfl⟩
      · cases h
    · obtain ⟨f, h1, h⟩ := Option.bind_eq_some_iff.mp h
      obtain ⟨ps, h2, rfl⟩ := Option.map_eq_some_iff.mp h
      exact ⟨_, rfl⟩
theorem line_small {d : Deed} (h : DeedOk d) (hs : seatsOf d ≤ 20) : (lineOf d).length ≤ 840 ∧ blanks (lineOf d) ≤ 64 := by
  obtain ⟨h1, h2, h3, h4⟩ := deed_words h
  have hw : (wordsOf d).length ≤ 64 := by
    unfold wordsOf
    rw [List.length_map]
    cases d with
    | simp wd ps =>
      obtain ⟨⟨form, hf, hs⟩, _⟩ := h
      obtain ⟨_, _, _, f, e, hfl, _⟩ := forms_word hf
      cases e
      rw [hs, List.length_map] at hfl
      show ps.length + 1 ≤ 64
      omega
    | found c s b seats =>
      have : seats.length ≤ 20 := hs
      unfold deedP
      simp only [List.length_cons]
      rw [List.length_flatten, List.map_map]
      have : (List.length ∘ seatP) = fun _ => 3 := rfl
      rw [this, List.map_const', List.sum_replicate_nat]
      omega
  have hj := join_len h1
  have hb := (join_all (wordsOf d)).2 fun w hw => List.count_eq_zero.mpr (h2 w hw)
  unfold lineOf
  exact ⟨by omega, by omega⟩

end Su
namespace Su
theorem found_drop {c : Str} {s : Int} {b : Bool} {seats : List (Str × Int × Int)} {i : Nat} {q : Str × Int × Int} (hq : seats[i]? = some q) : ((wordsOf (.found c s b seats)).drop (4 + 3 * i)).take 3 = (seatP q).map DW.txt := by
  unfold wordsOf deedP
  rw [← List.map_drop, ← List.map_take]
  congr 1
  rw [← List.drop_drop]
  show (List.drop (3 * i) (seats.map seatP).flatten).take 3 = seatP q
  clear c s b
  induction seats generalizing i with
  | nil => cases hq
  | cons a r ih =>
    cases i with
    | zero =>
      obtain rfl := Option.some.inj hq
      rfl
    | succ i =>
      rw [show 3 * (i + 1) = 3 + 3 * i from by omega, ← List.drop_drop]
      exact ih hq

end Su
namespace Su
open TL
/-! ### data without lists outlast a change of a list; a comprehension of such data -/
inductive NoL : PyData → Prop
  | none : NoL .none
  | bool (b : Bool) : NoL (.bool b)
  | int (i : Int) : NoL (.int i)
  | str (x : Str) : NoL (.str x)
  | tuple {xs : List PyData} : (∀ x ∈ xs, NoL x) → NoL (.tuple xs)
theorem sqt_upd {K : PySem.W.Frag} {H : Hp} {D a : Addr} {xs ys : List V} {o : HO} (h : SqT K H a xs) (hD : H D = some (.lst ys)) : SqT K (upd H D o) a xs := by
  rcases h with h | h
  · refine .inl ?_
    have hne : a ≠ D := fun z => by
      subst z
      rcases h with h | ⟨u, h⟩ <;> rw [hD] at h <;> cases h
    rcases h with h | ⟨u, h⟩
    · exact .inl (by rw [upd_ne hne]; exact h)
    · exact .inr ⟨u, by rw [upd_ne hne]; exact h⟩
  · exact .inr h
section
variable {K : PySem.W.Frag} {H : Hp} {D : Addr} {ys : List V} {o : HO}
mutual
theorem dp_updL (hD : H D = some (.lst ys)) : ∀ {x : V} {d : PyData}, Dp K H x d → NoL d → Dp K (upd H D o) x d
  | _, _, .non, _ => .non
  | _, _, .bl b, _ => .bl b
  | _, _, .int i, _ => .int i
  | _, _, .str z, _ => .str z
  | _, _, .lst _ _, h => nomatch h
  | _, _, .tup h1 h2, .tuple h => .tup (sqt_upd h1 hD) (dpa_updL hD h2 h)
theorem dpa_updL (hD : H D = some (.lst ys)) : ∀ {xs : List V} {ds : List PyData}, DpAll K H xs ds → (∀ d ∈ ds, NoL d) → DpAll K (upd H D o) xs ds
  | _, _, .nil, _ => .nil
  | _, _, .cons h1 h2, h => .cons (dp_updL hD h1 (h _ List.mem_cons_self)) (dpa_updL hD h2 fun d hd => h d (List.mem_cons_of_mem _ hd))
end
end
theorem dpa_snoc {K : PySem.W.Frag} {H : Hp} : ∀ {xs : List V} {ds : List PyData} {x : V} {d : PyData}, DpAll K H xs ds → Dp K H x d → DpAll K H (xs ++ [x]) (ds ++ [d])
  | _, _, _, _, .nil, h => .cons h .nil
  | _, _, _, _, .cons h1 h2, h => .cons h1 (dpa_snoc h2 h)
/-- [.. for x in a list just made], each item's value told by its data -/
theorem lcw_D {K : PySem.W.Frag} {σ : L2.St} {te : TE} {g : TG} {vs : List Nat} {J : It} {n : Nat} {G : Hp → Prop} {Y : Nat → Hp → V → Hp → Prop} (w : Walk J n G Y) (X : Nat → V → Prop) (hY : ∀ i H x H', Y i H x H' → H' = H ∧ X i x) (R : Nat → PyData → Prop) {H1 : Hp} {Q : VK} (hG : ∀ H', Ex H1 H' → G H') (hn : n ≤ 40000)
    (hs : ∀ i x Hb, Ex H1 Hb → i < n → X i x → ∃ σ2, Tgt g x (wipe σ vs) σ2 Hb ∧ wipe σ2 vs = wipe σ vs ∧ ∀ H2, Ex Hb H2 → ∀ Q' : VK, (∀ v H3 d, Ex H2 H3 → Dp K H3 v d → NoL d → R i d → Q' v H3) → te σ2 H2 Q')
    (q : ∀ D H' ts ds, H1 D = none → Ex H1 H' → H' D = some (.lst ts) → DpAll K H' ts ds → ds.length = n → (∀ d ∈ ds, NoL d) → (∀ i d, ds[i]? = some d → R i d) → Q (.ref D) H') :
    ∀ D, H1 D = none → ∃ W : Nat → Nat → Hp → Prop, (∃ m, W 0 m (upd H1 D (.lst []))) ∧ ∀ i m H, W i m H →
      (J.stop i H ∧ Q (.ref D) H) ∨ (J.go i H ∧ ∃ Nx : Hp → Prop, (∀ H', Nx H' → ∃ m', m' < m ∧ W (i + 1) m' H') ∧ ∀ x H', J.yld i H x H' → g x (wipe σ vs) H' fun σ2 H2 => wipe σ2 vs = wipe σ vs ∧ tYes σ2 H2 fun b H3 =>
        if b = true then te σ2 H3 fun y H4 => ∃ acc, H4 D = some (.lst acc) ∧ acc.length < sizeLine ∧ Nx (upd H4 D (.lst (acc ++ [y]))) else Nx H3) := fun D hD =>
  lc_it w (Qd := fun H' => Q (.ref D) H') (fun i H' => Ex H1 H' ∧ ∃ ts ds, H' D = some (.lst ts) ∧ ts.length = i ∧ DpAll K H' ts ds ∧ ds.length = i ∧ (∀ d ∈ ds, NoL d) ∧ ∀ j d, ds[j]? = some d → R j d) ⟨Ex.new hD, [], [], upd_same, rfl, .nil, rfl, (fun _ h => nomatch h), fun _ _ h => nomatch h⟩ (fun i H' _ p => hG _ p.1) (fun i x H2 H2' hi p y => by
    obtain ⟨rfl, hx⟩ := hY _ _ _ _ y
    obtain ⟨ex, ts, ds, hts, htl, hd, hdl, hnl, hR⟩ := p
    obtain ⟨σ2, h1, h2, h3⟩ := hs i x _ ex hi hx
    refine h1 _ (Ex.refl _) _ ⟨h2, ?_⟩
    unfold tYes
    dsimp only
    rw [if_pos rfl]
    refine h3 _ (Ex.refl _) _ fun v H4 d e4 hv hnd hr => ⟨ts, e4 _ _ hts, sz_lt (by omega), Ex.mut (ex.trans e4) hD, ts ++ [v], ds ++ [d], upd_same, by rw [List.length_append, htl]; rfl, dpa_updL (e4 _ _ hts) (dpa_snoc (dpa_ex e4 hd) hv) ?_, by rw [List.length_append, hdl]; rfl, ?_, fun j d' hj => ?_⟩
    · intro x hx
      rcases List.mem_append.mp hx with hx | hx
      · exact hnl x hx
      · rw [List.mem_singleton.mp hx]; exact hnd
    · intro x hx
      rcases List.mem_append.mp hx with hx | hx
      · exact hnl x hx
      · rw [List.mem_singleton.mp hx]; exact hnd
    · by_cases hj2 : j < ds.length
      · rw [List.getElem?_append_left hj2] at hj
        exact hR j d' hj
      · rw [List.getElem?_append_right (by omega)] at hj
        have : j - ds.length = 0 := by
          have := (List.getElem?_eq_some_iff.mp hj).1
          have e : ([d] : List PyData).length = 1 := rfl
          omega
        rw [this] at hj
        obtain rfl := Option.some.inj hj
        have : j = i := by omega
        rw [this]
        exact hr) (fun H' p => by
    obtain ⟨ex, ts, ds, hts, htl, hd, hdl, hnl, hR⟩ := p
    exact q D H' ts ds hD ex hts hd hdl hnl hR)
def EvDs (K : PySem.W.Frag) (te : TE) (σ : L2.St) (H : Hp) (n : Nat) (R : Nat → PyData → Prop) : Prop := ∀ H1, Ex H H1 → ∀ Q : VK, (∀ p ts ds H2, H1 p = none → Ex H1 H2 → H2 p = some (.lst ts) → DpAll K H2 ts ds → ds.length = n → (∀ d ∈ ds, NoL d) → (∀ i d, ds[i]? = some d → R i d) → Q (.ref p) H2) → te σ H1 Q
theorem eds_R1 {K : PySem.W.Frag} {σ : L2.St} {H : Hp} {te : TE} {g : TG} {ta : TA} {vs : List Nat} {n : Nat} (R : Nat → PyData → Prop) (h : EvA ta σ H [.int (n : Int)]) (hn : n ≤ 40000)
    (hs : ∀ i Hb, Ex H Hb → i < n → ∃ σ2, Tgt g (.int (i : Int)) (wipe σ vs) σ2 Hb ∧ wipe σ2 vs = wipe σ vs ∧ ∀ H2, Ex Hb H2 → ∀ Q' : VK, (∀ v H3 d, Ex H2 H3 → Dp K H3 v d → NoL d → R i d → Q' v H3) → te σ2 H2 Q') : EvDs K (tLc (iRng1 ta) g tYes te vs) σ H n R := fun H0 e Q q => h H0 e _ fun H1 e1 => by
  refine ⟨(n : Int), rfl, by omega, by omega, ?_⟩
  rw [Int.toNat_natCast]
  exact lcw_D (K := K) walk_range (fun i x => x = .int ((0 : Int) + (i : Nat))) (fun _ _ _ _ y => y) R (fun _ _ => trivial) hn (fun i x Hb eb hi hx => by
    subst hx
    rw [Int.zero_add]
    exact hs i Hb ((e.trans e1).trans eb) hi) fun D H' ts ds hD e' h' hd hl hnl hR => q D ts ds H' (fresh_back e1 hD) (e1.trans e') h' hd hl hnl hR
/-- .. over a list just made -/
theorem eds_N {K : PySem.W.Frag} {σ : L2.St} {H : Hp} {te tl : TE} {g : TG} {vs : List Nat} {xs : List V} (R : Nat → PyData → Prop) (h : EvL tl σ H xs) (hn : xs.length ≤ 40000)
    (hs : ∀ i x Hb, Ex H Hb → xs[i]? = some x → ∃ σ2, Tgt g x (wipe σ vs) σ2 Hb ∧ wipe σ2 vs = wipe σ vs ∧ ∀ H2, Ex Hb H2 → ∀ Q' : VK, (∀ v H3 d, Ex H2 H3 → Dp K H3 v d → NoL d → R i d → Q' v H3) → te σ2 H2 Q') : EvDs K (tLc (iList K tl) g tYes te vs) σ H xs.length R := fun H0 e Q q => h H0 e _ fun a H1 ha e1 hx => ⟨a, rfl, ⟨xs, sq_of hx⟩,
  lcw_D (K := K) walk_list (fun i x => xs[i]? = some x) (fun _ _ _ _ y => y) R (fun H' e' => sq_of (e' _ _ hx)) hn (fun i x Hb eb _ hi => hs i x Hb ((e.trans e1).trans eb) hi) fun D H' ts ds hD e' h' hd hl hnl hR => q D ts ds H' (fresh_back e1 hD) (e1.trans e') h' hd hl hnl hR⟩
theorem lcN_bad {K : PySem.W.Frag} {σ : L2.St} {H : Hp} {te tl : TE} {g : TG} {vs : List Nat} {xs : List V} (h : EvL tl σ H xs) (hn : xs.length ≤ 40000) {i0 : Nat} (h0 : i0 < xs.length)
    (hs : ∀ i x Hb, Ex H Hb → xs[i]? = some x → ∃ σ2, Tgt g x (wipe σ vs) σ2 Hb ∧ wipe σ2 vs = wipe σ vs ∧ Goes te σ2 Hb ∧ (i = i0 → ∀ H2, Ex Hb H2 → ∀ Q, te σ2 H2 Q)) : ∀ Q, tLc (iList K tl) g tYes te vs σ H Q := fun Q => h H (Ex.refl _) _ fun a H1 ha e1 hx => ⟨a, rfl, ⟨xs, sq_of hx⟩,
  lcw_bad walk_list (fun i x => xs[i]? = some x) (fun _ _ _ _ y => y) (fun H' e' => sq_of (e' _ _ hx)) hn h0 fun i x Hb eb _ hi => hs i x Hb (e1.trans eb) hi⟩
theorem q_asgDs {K : PySem.W.Frag} {te : TE} {σ : L2.St} {H : Hp} {n i : Nat} {R : Nat → PyData → Prop} {D : Ends} {tz : TS} (h : EvDs K te σ H n R) (k : ∀ p ts ds H1, H p = none → Ex H H1 → H1 p = some (.lst ts) → DpAll K H1 ts ds → ds.length = n → (∀ d ∈ ds, NoL d) → (∀ i d, ds[i]? = some d → R i d) → tz D (σ.set i (some (.ref p))) H1) : tSeq (tAsg te (gName i)) tz D σ H := h H (Ex.refl _) _ k
theorem s_retDs {K : PySem.W.Frag} {te : TE} {σ : L2.St} {H : Hp} {n : Nat} {R : Nat → PyData → Prop} {D : Ends} (h : EvDs K te σ H n R) (k : ∀ p ts ds H1, Ex H H1 → H1 p = some (.lst ts) → DpAll K H1 ts ds → ds.length = n → (∀ i d, ds[i]? = some d → R i d) → D.rt (.ref p) H1) : tRet te D σ H := h H (Ex.refl _) _ fun p ts ds H1 _ e h hd hl _ hR => k p ts ds H1 e h hd hl hR

end Su
namespace Su
open TL
/-! ### pages: their lines, the data of a valid line -/
abbrev nlS : Str := Str.ofString "\n"
theorem spl_cnt (S : List Nat) : ∀ (k : Nat) (acc l : List Nat), ∀ w ∈ spl S k acc l, w.count 32 ≤ acc.count 32 + l.count 32
  | k, acc, [], w, hw => by
    rw [spl_nil] at hw
    rw [List.mem_singleton.mp hw]
    exact Nat.le_add_right _ _
  | 0, acc, c :: r, w, hw => by
    by_cases h : pre S (c :: r) = true
    · rw [spl_hit h] at hw
      rcases List.mem_cons.mp hw with rfl | hw
      · exact Nat.le_add_right _ _
      · have h1 := spl_cnt S (S.length - 1) [] r w hw
        have h2 : r.count 32 ≤ (c :: r).count 32 := List.Sublist.count_le _ (List.sublist_cons_self c r)
        have h3 : ([] : List Nat).count 32 = 0 := rfl
        omega
    · have e : spl S 0 acc (c :: r) = spl S 0 (acc ++ [c]) r := by
        show (if pre S (c :: r) = true then _ else _) = _
        rw [if_neg h]
      rw [e] at hw
      have h1 := spl_cnt S 0 (acc ++ [c]) r w hw
      rw [List.count_append] at h1
      have h2 : (c :: r).count 32 = [c].count 32 + r.count 32 := by
        rw [show c :: r = [c] ++ r from rfl, List.count_append]
      omega
  | k + 1, acc, c :: r, w, hw => by
    have hw : w ∈ spl S k acc r := hw
    have h1 := spl_cnt S k acc r w hw
    have h2 : r.count 32 ≤ (c :: r).count 32 := List.Sublist.count_le _ (List.sublist_cons_self c r)
    omega
theorem split_nl (z : Str) : (1 ≤ (Txt.split z nlS).length ∧ (Txt.split z nlS).length ≤ z.length + 1) ∧ ∀ w ∈ Txt.split z nlS, w.length ≤ z.length ∧ blanks w ≤ blanks z := by
  have hk := kind_all (y := nlS) (by decide +kernel) z
  have hy : tl nlS ≠ [] := by decide +kernel
  obtain ⟨h1, h2⟩ := split_len z nlS hy hk
  refine ⟨h1, fun w hw => ⟨h2 w hw, ?_⟩⟩
  have e := split_spl z nlS hy hk
  have := spl_cnt (tl nlS) 0 [] (tl z) (tl w) (e ▸ List.mem_map_of_mem hw)
  rwa [show ([] : List Nat).count 32 = 0 from rfl, Nat.zero_add] at this
def lineR (l : Str) : Option PyData := deedR (Txt.split l (Str.ofString " "))
def pageR (z : Str) : Option (List PyData) := if (Txt.split z nlS).getLast? = some (Str.ofString "") then optAll ((Txt.split z nlS).dropLast.map lineR) else none
theorem dw_reads {p : DW} (h : p.ok) : rdOne p.sign p.txt = some p := by
  cases p with
  | nm s =>
    show (if isNameB s = true then some (DW.nm s) else none) = _
    rw [if_pos (isName_iff.mpr h)]
  | no n =>
    have hl := numT_len h.1 h.2
    have hd : digB (numT n) = true := by
      unfold digB
      rw [decide_eq_true (show (1 : Int) ≤ (numT n).length by omega), decide_eq_true (show ((numT n).length : Int) ≤ 12 by omega)]
      show (tl (numT n)).all _ = true
      rw [List.all_eq_true]
      intro c hc
      rw [numT_tl h.1] at hc
      exact decide_eq_true (fig_mem.mpr (numL_digits _ c hc))
    have hz : zeroB (numT n) = false := by
      unfold zeroB
      by_cases hh : (tl (numT n)).head? = some 48
      · rw [numT_tl h.1] at hh
        have := numL_head _ hh
        have e : n = 0 := by have := h.1; omega
        rw [e, numT_zero, decide_eq_true rfl]
        exact Bool.and_false _
      · rw [decide_eq_false hh]
        rfl
    have hn : numB (numT n) = true := by unfold numB; rw [hd, hz]; rfl
    have hv : valT (numT n) = n := by unfold valT; rw [numT_reads h.1 h.2]; rfl
    show (if (99 : Nat) = 110 then _ else if (99 : Nat) = 99 then (if numB (numT n) = true then some (DW.no (valT (numT n))) else none) else _) = _
    rw [if_neg (by decide), if_pos rfl, if_pos hn, hv]
theorem dws_read : ∀ {ps : List DW}, (∀ p ∈ ps, p.ok) → rdAll ((ps.map DW.sign).zip (ps.map DW.txt)) = some ps
  | [], _ => rfl
  | p :: r, h => by
    show ((rdOne p.sign p.txt).bind fun a => (rdAll ((r.map DW.sign).zip (r.map DW.txt))).map fun b => a :: b) = _
    rw [dw_reads (h p List.mem_cons_self), dws_read fun q hq => h q (List.mem_cons_of_mem _ hq)]
    rfl
theorem dws_words {ps : List DW} (h : ∀ p ∈ ps, p.ok) : rdWords (ps.map DW.txt) (ps.map DW.sign) = some ps := by
  unfold rdWords
  rw [if_pos (by rw [List.length_map, List.length_map]), dws_read h]
theorem optAll_map {α β : Type} : ∀ (l : List α) (f : α → Option β) (g : α → β), (∀ a ∈ l, f a = some (g a)) → optAll (l.map f) = some (l.map g)
  | [], _, _, _ => rfl
  | a :: r, f, g, h => by
    show ((f a).bind fun x => (optAll (r.map f)).map fun b => x :: b) = _
    rw [h a List.mem_cons_self, optAll_map r f g fun x hx => h x (List.mem_cons_of_mem _ hx)]
    rfl
theorem deed_reads {d : Deed} (h : DeedOk d) : deedR (wordsOf d) = some (deedD d) := by
  cases d with
  | simp wd ps =>
    obtain ⟨⟨form, hf, hs⟩, hp⟩ := h
    obtain ⟨_, _, hne, f3, e3, _⟩ := forms_word hf
    cases e3
    have hF : formOf wd = some form := by unfold formOf; rw [hf]; rfl
    show (if wd = foundS then _ else (formOf wd).bind fun f => (rdWords (ps.map DW.txt) (tl f)).map fun ps => PyData.tuple (.str wd :: ps.map DW.d)) = _
    rw [if_neg hne, hF]
    show (rdWords (ps.map DW.txt) (tl form)).map _ = _
    rw [hs, dws_words hp]
    rfl
  | found c st b seats =>
    obtain ⟨hc, hst, l1, l2, hq⟩ := h
    have hlen : (wordsOf (.found c st b seats)).length = 4 + 3 * seats.length := by
      unfold wordsOf deedP
      rw [List.length_map, List.length_cons, List.length_cons, List.length_cons, List.length_cons, List.length_flatten, List.map_map]
      have : (List.length ∘ seatP) = fun _ => 3 := rfl
      rw [this, List.map_const', List.sum_replicate_nat]
      omega
    have h3 : (wordsOf (.found c st b seats))[3]? = some (if b then bidsS else plainS) := rfl
    have hh : headOk (wordsOf (.found c st b seats)) = true := by
      unfold headOk
      rw [decide_eq_true (show 7 ≤ (wordsOf (.found c st b seats)).length by omega), h3]
      cases b <;> decide +kernel
    have hw : rdWords (((wordsOf (.found c st b seats)).drop 1).take 2) [110, 99] = some [.nm c, .no st] := dws_words (ps := [.nm c, .no st]) fun p hp => by
      rcases List.mem_cons.mp hp with rfl | hp
      · exact hc
      · obtain rfl := List.mem_singleton.mp hp
        exact hst
    have hN : seatsN (wordsOf (.found c st b seats)) = seats.length := by unfold seatsN; omega
    have hr : seatsR (wordsOf (.found c st b seats)) = some (seats.map seatP) := by
      unfold seatsR
      rw [hN, optAll_map _ _ (fun i => seatP (seats.getD i ("", 0, 0))) fun i hi => ?_]
      · congr 1
        apply List.ext_getElem
        · rw [List.length_map, List.length_range, List.length_map]
        · intro i h1 h2
          rw [List.length_map] at h2
          rw [List.getElem_map, List.getElem_map, List.getElem_range, List.getD_eq_getElem?_getD, List.getElem?_eq_getElem h2]
          rfl
      · have hi := List.mem_range.mp hi
        have g : seats[i]? = some seats[i] := List.getElem?_eq_getElem hi
        unfold chunkAt
        rw [found_drop g, List.getD_eq_getElem?_getD, g]
        obtain ⟨q1, q2, q3⟩ := hq _ (List.mem_of_getElem? g)
        refine dws_words (ps := seatP seats[i]) fun p hp => ?_
        rcases List.mem_cons.mp hp with rfl | hp
        · exact q1
        rcases List.mem_cons.mp hp with rfl | hp
        · exact q2
        · obtain rfl := List.mem_singleton.mp hp
          exact q3
    have hz : deedR (wordsOf (.found c st b seats)) = foundR (wordsOf (.found c st b seats)) := by
      show (if foundS = foundS then foundR (wordsOf (.found c st b seats)) else (formOf foundS).bind fun f => (rdWords ((wordsOf (.found c st b seats)).drop 1) (tl f)).map fun ps => PyData.tuple (.str foundS :: ps.map DW.d)) = _
      rw [if_pos rfl]
    rw [hz]
    unfold foundR
    rw [if_pos hh, hw]
    show (seatsR (wordsOf (.found c st b seats))).map _ = _
    rw [hr]
    show some (foundD _ _ _) = some _
    congr 1
    unfold foundD
    rw [h3]
    have hb : decide (some (if b then bidsS else plainS) = some bidsS) = b := by cases b <;> decide +kernel
    rw [hb, List.map_map]
    rfl
theorem line_reads {d : Deed} (h : DeedOk d) : lineR (lineOf d) = some (deedD d) := by
  unfold lineR
  rw [line_split h]
  exact deed_reads h
theorem txt_nonl {p : DW} (h : p.ok) : 10 ∉ tl p.txt := by
  cases p with
  | nm s => exact fun hc => by have := h.2.2 10 hc; omega
  | no n =>
    show 10 ∉ tl (numT n)
    rw [numT_tl h.1]
    exact fun hc => by have := numL_digits _ 10 hc; omega
theorem forms_nonl {wd : Str} {v : V} (h : getD' formsKv wd = some v) : 10 ∉ tl wd := by
  unfold getD' at h
  obtain ⟨kv, hkv, _⟩ := Option.map_eq_some_iff.mp h
  have hm := List.mem_of_find?_eq_some hkv
  have he := List.find?_some hkv
  have he : (kv.1 == wd) = true := he
  have hall : ∀ kv ∈ formsKv, 10 ∉ tl kv.1 := by
    simp only [formsKv, List.forall_mem_cons]
    refine ⟨?_, ?_, ?_, ?_, ?_, ?_, ?_, ?_, ?_, fun _ h => nomatch h⟩ <;> decide +kernel
  rw [← eq_of_beq he]
  exact hall kv hm
theorem words_nonl {d : Deed} (h : DeedOk d) : ∀ w ∈ wordsOf d, 10 ∉ tl w := by
  intro w hw
  unfold wordsOf at hw
  obtain ⟨p, hp, rfl⟩ := List.mem_map.mp hw
  cases d with
  | simp wd ps =>
    obtain ⟨⟨form, hf, hs⟩, hok⟩ := h
    rcases List.mem_cons.mp hp with rfl | hp
    · exact forms_nonl hf
    · exact txt_nonl (hok p hp)
  | found c st b seats =>
    obtain ⟨hc, hst, l1, l2, hq⟩ := h
    unfold deedP at hp
    rcases List.mem_cons.mp hp with rfl | hp
    · exact show 10 ∉ tl foundS by decide +kernel
    rcases List.mem_cons.mp hp with rfl | hp
    · exact txt_nonl (p := .nm c) hc
    rcases List.mem_cons.mp hp with rfl | hp
    · exact txt_nonl (p := .no st) hst
    rcases List.mem_cons.mp hp with rfl | hp
    · cases b
      · exact show 10 ∉ tl plainS by decide +kernel
      · exact show 10 ∉ tl bidsS by decide +kernel
    obtain ⟨l, hl, hpl⟩ := List.mem_flatten.mp hp
    obtain ⟨q, hqm, rfl⟩ := List.mem_map.mp hl
    obtain ⟨q1, q2, q3⟩ := hq q hqm
    unfold seatP at hpl
    rcases List.mem_cons.mp hpl with rfl | hpl
    · exact txt_nonl (p := .nm q.1) q1
    rcases List.mem_cons.mp hpl with rfl | hpl
    · exact txt_nonl (p := .no q.2.1) q2
    · obtain rfl := List.mem_singleton.mp hpl
      exact txt_nonl (p := .no q.2.2) q3
theorem joinL_in {s c : Nat} : ∀ {ws : List (List Nat)}, (∀ w ∈ ws, c ∉ w) → c ≠ s → c ∉ joinL [s] ws
  | [], _, _ => List.not_mem_nil
  | [a], h, _ => h a List.mem_cons_self
  | a :: b :: r, h, hc => by
    have ih := joinL_in (s := s) (fun w hw => h w (List.mem_cons_of_mem _ hw)) hc
    show c ∉ a ++ ([s] ++ joinL [s] (b :: r))
    intro z
    rcases List.mem_append.mp z with z | z
    · exact h a List.mem_cons_self z
    rcases List.mem_append.mp z with z | z
    · exact hc (List.mem_singleton.mp z)
    · exact ih z
theorem line_nonl {d : Deed} (h : DeedOk d) : 10 ∉ tl (lineOf d) := by
  unfold lineOf
  rw [join_eq, tl_join, blank_tl]
  refine joinL_in (fun w hw => ?_) (by decide)
  obtain ⟨x, hx, rfl⟩ := List.mem_map.mp hw
  exact words_nonl h x hx
/-- the page of some deeds -/
def pageOf : List Deed → Str
  | [] => Str.ofString ""
  | d :: r => (lineOf d ++ nlS) ++ pageOf r
theorem nl_tl : tl nlS = [10] := by decide +kernel
theorem pageOf_join : ∀ ds : List Deed, pageOf ds = Txt.join nlS (ds.map lineOf ++ [Str.ofString ""])
  | [] => by
    apply ext_tl
    rw [join_eq, tl_join]
    rfl
  | d :: r => by
    apply ext_tl
    have ih := congrArg tl (pageOf_join r)
    rw [join_eq, tl_join] at ih
    show tl ((lineOf d ++ nlS) ++ pageOf r) = _
    rw [tl_append, tl_append, ih, join_eq, tl_join, nl_tl, List.append_assoc]
    cases hr : (r.map lineOf ++ [Str.ofString ""]).map tl with
    | nil => simp at hr
    | cons a b =>
      have e : ((d :: r).map lineOf ++ [Str.ofString ""]).map tl = tl (lineOf d) :: a :: b := by
        rw [← hr]
        rfl
      rw [e]
      rfl
theorem pageOf_split {ds : List Deed} (h : ∀ d ∈ ds, DeedOk d) : Txt.split (pageOf ds) nlS = ds.map lineOf ++ [Str.ofString ""] := by
  rw [pageOf_join]
  refine TL.split_join (s := 10) (S := []) nl_tl (by decide +kernel) (by simp) fun p hp => ?_
  rcases List.mem_append.mp hp with hp | hp
  · obtain ⟨d, hd, rfl⟩ := List.mem_map.mp hp
    exact line_nonl (h d hd)
  · rw [List.mem_singleton.mp hp]
    decide +kernel
theorem pageR_of {ds : List Deed} (h : ∀ d ∈ ds, DeedOk d) : pageR (pageOf ds) = some (ds.map deedD) := by
  unfold pageR
  rw [pageOf_split h, if_pos (by rw [List.getLast?_append]; rfl), List.dropLast_concat, List.map_map]
  exact optAll_map ds _ deedD fun d hd => line_reads (h d hd)
theorem pageOf_len : ∀ {ds : List Deed}, (∀ d ∈ ds, (lineOf d).length ≤ 840 ∧ blanks (lineOf d) ≤ 64) → (pageOf ds).length ≤ 841 * ds.length ∧ blanks (pageOf ds) ≤ 64 * ds.length
  | [], _ => ⟨by decide +kernel, by decide +kernel⟩
  | d :: r, h => by
    obtain ⟨h1, h2⟩ := pageOf_len (ds := r) fun x hx => h x (List.mem_cons_of_mem _ hx)
    obtain ⟨a1, a2⟩ := h d List.mem_cons_self
    have la : ∀ x y : Str, (x ++ y).length = x.length + y.length := fun x y => by rw [len_tl, tl_append, List.length_append, ← len_tl, ← len_tl]
    have ba : ∀ x y : Str, blanks (x ++ y) = blanks x + blanks y := fun x y => by unfold blanks; rw [tl_append, List.count_append]
    have n1 : nlS.length = 1 := by decide +kernel
    have n2 : blanks nlS = 0 := by decide +kernel
    show ((lineOf d ++ nlS) ++ pageOf r).length ≤ _ ∧ blanks ((lineOf d ++ nlS) ++ pageOf r) ≤ _
    rw [la, la, ba, ba, List.length_cons]
    omega
theorem nol_dw (p : DW) : NoL p.d := by
  cases p with
  | nm s => exact .str s
  | no n => exact .int n
theorem nol_deedR {ws : List Str} {d : PyData} (h : deedR ws = some d) : NoL d := by
  unfold deedR at h
  cases h0 : ws[0]? with
  | none => rw [h0] at h; cases h
  | some z =>
    rw [h0] at h
    have h : (if z = foundS then foundR ws else (formOf z).bind fun f => (rdWords (ws.drop 1) (tl f)).map fun ps => .tuple (.str z :: ps.map DW.d)) = some d := h
    split at h
    · unfold foundR at h
      split at h
      · obtain ⟨hd, h1, h⟩ := Option.bind_eq_some_iff.mp h
        obtain ⟨rows, h2, rfl⟩ := Option.map_eq_some_iff.mp h
        refine .tuple fun x hx => ?_
        rcases List.mem_cons.mp hx with rfl | hx
        · exact .str _
        rcases List.mem_append.mp hx with hx | hx
        · obtain ⟨p, _, rfl⟩ := List.mem_map.mp hx
          exact nol_dw p
        rcases List.mem_cons.mp hx with rfl | hx
        · exact .bool _
        · obtain rfl := List.mem_singleton.mp hx
          refine .tuple fun y hy => ?_
          obtain ⟨r, _, rfl⟩ := List.mem_map.mp hy
          refine .tuple fun q hq => ?_
          obtain ⟨p, _, rfl⟩ := List.mem_map.mp hq
          exact nol_dw p
      · cases h
    · obtain ⟨f, h1, h⟩ := Option.bind_eq_some_iff.mp h
      obtain ⟨ps, h2, rfl⟩ := Option.map_eq_some_iff.mp h
      refine .tuple fun x hx => ?_
      rcases List.mem_cons.mp hx with rfl | hx
      · exact .str _
      · obtain ⟨p, _, rfl⟩ := List.mem_map.mp hx
        exact nol_dw p
theorem nol_deedD {d : Deed} (h : DeedOk d) : NoL (deedD d) := nol_deedR (deed_reads h)

end Su
namespace Su
open TL
/-! ### text.replace(a, b, 1): the first one alone; behind a constant a token is out -/
def PEk (X : Cx) (e : Expr) (t : TE) : Prop :=
  ∀ (pins : List (Addr × Obj)) (s : Shared) (σ : L2.St) (H : Hp) (Q : VK), L2.Inv X pins σ H s → t σ H Q → wpAny (model X.prog X.w) X.A (eval e X.env) (fun v s' => 1 ≤ s'.toks ∧ EP X pins σ Q v s') X.xe s
section
variable {X : Cx}
theorem pek_int {i : Int} {j : Nat} {pos : Pos} : PEk X (.Constant (.int i) j pos) (tC (.int i)) := fun _ s _ H _ I h => wpAny_Constant_int ⟨Nat.succ_le_succ (Nat.zero_le _), .int i, H, I.tok _, ⟨_, rfl⟩, h⟩
theorem pek_op {a b : Expr} {ta tb : TE} {pos : Pos} {op : Operator} {r : R2} (ho : OpR X (binaryOp op) r) (ha : PE X a ta) (hb : PEk X b tb) : PEk X (.BinOp a op b pos) (tOp r ta tb) := by
  intro pins s σ H Q I h
  refine wpAny_BinOp (thn (ha.run pins s σ H _ I h) fun v s1 z => ?_)
  obtain ⟨x, H1, I1, r1, q1⟩ := z
  refine wpAny_mono (hb pins s1 σ H1 _ I1 q1) (fun u s2 z => ?_) fun _ _ z => z
  obtain ⟨k2, y, H2, I2, r2, q2⟩ := z
  exact wpAny_mono (PySem.wpAny_toks (ho pins s2 σ H2 x y v u Q I2 r1 r2 q2)) (fun w s3 z => ⟨Nat.le_trans k2 z.1, z.2⟩) fun _ _ z => z.2
theorem pss_setk {i : Nat} {x : Str} {e : Expr} {te : TE} {pos' pos : Pos} {rest : List Stmt} {u : TS} (hN : X.N.Nodup) (hi : X.N[i]? = some x) (hx : Loc X.env.scope x) (he : PEk X e te) (h2 : PSsT X rest u) (hs : swapsWith e (some (.Name x pos')) pos.line X.env = pure false := by rfl)
    (hf : X.fn x = true ∨ X.env.scope.names.lookup x = some .local := by first | exact .inl rfl | exact .inr rfl | assumption) : PSs X (.Assign [.Name x pos'] e pos :: rest) (tSeq (tAsg te (gName i)) u) := by
  refine ⟨fun pins s σ H D I h => ?_⟩
  refine wpAny_execs_cons (wpAny_Assign_Name (wpAny_mono (he pins s σ H _ I h) (fun v s1 z => ?_) fun _ _ z => z) hs)
  obtain ⟨k1, y, H1, I1, r1, q1⟩ := z
  refine wpAny_mono (PySem.wpAny_toks (store_ok (v := y) (u := v) (Q := fun _ s2 => L2.Inv X pins (σ.set i (some y)) H1 s2) I1 hN hi hx r1 (fun _ I2 => I2) hf)) (fun _ s2 q => ?_) fun _ _ z => z.2
  exact h2 pins s2 _ H1 D (Nat.le_trans k1 q.1) q.2 q1
theorem pst_ret' {e : Expr} {te : TE} {pos : Pos} (he : PET X e te) : PST X (.Return (some e) pos) (tRet te) := by
  intro pins s σ H D h0 I h
  refine wpAny_Return_some (thn (he pins s σ H _ h0 I h) fun v s1 z => ?_)
  obtain ⟨x, H1, I1, r1, q1⟩ := z
  exact ⟨x, σ, H1, I1, r1, q1⟩
theorem psst_one' {st : Stmt} {t : TS} (h : PST X st t) : PSsT X [st] t := psst_cons h (PSsT.of pss_nil)
theorem pet_op' {a b : Expr} {ta tb : TE} {pos : Pos} {op : Operator} {r : R2} (ho : OpR X (binaryOp op) r) (ha : PE X a ta) (hb : PET X b tb) : PET X (.BinOp a op b pos) (tOp r ta tb) := by
  intro pins s σ H Q h0 I h
  refine wpAny_BinOp (wpAny_mono (PySem.wpAny_toks (ha.run pins s σ H _ I h)) (fun v s1 q => ?_) fun _ _ z => z.2)
  obtain ⟨hk, x, H1, I1, r1, q1⟩ := q
  refine thn (hb pins s1 σ H1 _ (Nat.le_trans h0 hk) I1 q1) fun u s2 z => ?_
  obtain ⟨y, H2, I2, r2, q2⟩ := z
  exact ho pins s2 σ H2 x y v u Q I2 r1 r2 q2
end
section
open PySem.Builtin PySem.Builtin.Str
def repl1 (x y z : Str) : Str := if ((occurrences x y 0 x.length 1).isEmpty || (y.length == 0 && z.length == 0)) = true then x else glued z (partsBetween x (occurrences x y 0 x.length 1) y.length)
theorem gives_repl1 (x y z : Str) (t u v r : Tok) (hf : ((occurrences x y 0 x.length 1).isEmpty || (y.length == 0 && z.length == 0)) = false → (u == 0 || v == 0) = false ∧ (u == v) = false ∧ (y == z) = false ∧ tooLong (x.length + (occurrences x y 0 x.length 1).length * z.length) = false) :
    Gives («str.replace» ⟨[.str x t, .str y u, .str z v, .int 1 r], []⟩) (if ((occurrences x y 0 x.length 1).isEmpty || (y.length == 0 && z.length == 0)) = true then .val (.str x t) else .str (glued z (partsBetween x (occurrences x y 0 x.length 1) y.length))) := by
  show Gives (if ((occurrences x y 0 x.length 1).isEmpty || (y.length == 0 && z.length == 0)) = true then (do rule "str.replace.nothing"; ret (.str x t)) else
    (do let same ← isSame (.str y u) (.str z v)
        if same = true then (do rule "str.replace.old-is-new"; ret (.str x t)) else if tooLong (x.length + (occurrences x y 0 x.length 1).length * z.length) = true then unsupported "str.replace:memory" else retStr (glued z (partsBetween x (occurrences x y 0 x.length 1) y.length)))) _
  cases hc : ((occurrences x y 0 x.length 1).isEmpty || (y.length == 0 && z.length == 0))
  · obtain ⟨h0, huv, hyz, hl⟩ := hf hc
    rw [isSame_str_other y z u v h0 huv hyz, hl]
    exact .of_eq rfl
  · exact .rule (.of_eq rfl)
end
section
open PySem.Builtin PySem.Builtin.Str
theorem call_repl1 {prog : Program} {w : World} {A : Around} {E : Value → Shared → Prop} {s : Shared} {x y z : Str} {t u v r : Tok} {Q : Value → Shared → Prop} (hu : u ≠ 0) (hv : v ≠ 0) (huv : u ≠ v) (hyz : (y == z) = false) (hb : x.length + z.length ≤ 100000) (hfit : ∀ a : Str, a = repl1 x y z → a.length ≤ 100000)
    (hq : ∀ t' k, Q (.str (repl1 x y z) t') { s with toks := k }) : wpAny (model prog w) A (call (.builtin "str.replace") [.str x t, .str y u, .str z v, .int 1 r]) Q E s := by
  have hl : tooLong (x.length + (occurrences x y 0 x.length 1).length * z.length) = false := by
    have h1 := StrLaws.occ_length_le x y 0 x.length 1
    have h2 : (occurrences x y 0 x.length 1).length * z.length ≤ 1 * z.length := Nat.mul_le_mul_right _ h1
    have h3 : x.length + (occurrences x y 0 x.length 1).length * z.length ≤ 100000 := by omega
    exact decide_eq_false (Nat.not_lt.mpr (sz_of h3))
  refine call_gives F.slot_str_replace (typeIs_str _ _ _) F.entry_str_replace (F.args_str_replace_4 _ _ _ _) (gives_repl1 x y z t u v r fun _ => ⟨by simp [hu, hv], by simp [huv], hyz, hl⟩) ?_
  have hq' := hq
  have hfit' := hfit _ rfl
  unfold repl1 at hq' hfit'
  cases hc : ((occurrences x y 0 x.length 1).isEmpty || (y.length == 0 && z.length == 0))
  · rw [hc] at hq' hfit'
    simp only [Bool.false_eq_true, if_false] at hq' hfit' ⊢
    exact ⟨sz_of hfit', hq' _ _⟩
  · rw [hc] at hq'
    simp only [if_true] at hq' ⊢
    exact hq' t s.toks
/-- the first y of x exchanged for z: its signs -/
theorem repl1_tl (x y z : Str) (hy : y.length = 1) (hz : z.length = 1) : repl1 x y z = x ∨ ∃ c, tl (repl1 x y z) = (tl x).take c ++ (tl z ++ (tl x).drop (c + 1)) := by
  unfold repl1
  by_cases hc : ((occurrences x y 0 x.length 1).isEmpty || (y.length == 0 && z.length == 0)) = true
  · rw [if_pos hc]
    exact .inl rfl
  · rw [if_neg hc]
    have h1 := StrLaws.occ_length_le x y 0 x.length 1
    have hne : occurrences x y 0 x.length 1 ≠ [] := fun e => by
      rw [e] at hc
      exact hc rfl
    obtain ⟨c, hcc⟩ : ∃ c, occurrences x y 0 x.length 1 = [c] := by
      match occurrences x y 0 x.length 1, hne, h1 with
      | [c], _, _ => exact ⟨c, rfl⟩
      | [], h, _ => exact absurd rfl h
      | _ :: _ :: _, _, h => simp at h
    rw [hcc, hy]
    have e : tl (glued z (partsBetween x [c] 1)) = (tl x).take c ++ (tl z ++ (tl x).drop (c + 1)) := by
      show ((strSub x 0 c).cps ++ z.cps ++ (strSub x (c + 1) x.length).cps).toList = _
      rw [Array.toList_append, Array.toList_append, List.append_assoc]
      have e1 : (strSub x 0 c).cps.toList = (tl x).take c := by
        show (x.cps.extract 0 c).toList = _
        rw [Array.toList_extract]
        simp [List.extract]
      have e2 : (strSub x (c + 1) x.length).cps.toList = (tl x).drop (c + 1) := by
        show (x.cps.extract (c + 1) x.length).toList = _
        rw [Array.toList_extract]
        have : x.length = x.cps.toList.length := len_tl x
        simp [List.extract]
        rw [List.take_of_length_le (by rw [List.length_drop]; omega)]
      rw [e1, e2]
    exact .inr ⟨c, e⟩
end
def tRepl1 (to : TE) (y z : Str) : TE := fun σ H Q => to σ H fun v H1 => ∃ x, v = .str x ∧ x.length + z.length ≤ 100000 ∧ (repl1 x y z).length ≤ 100000 ∧ Q (.str (repl1 x y z)) H1
theorem pet_repl1 {X : Cx} {o : Expr} {to : TE} {y z : Str} {j k l : Nat} {c0 c1 c2 apos pos : Pos} (ho : PE X o to) (hyz : (y == z) = false := by decide +kernel)
    (hst : starEach [.Constant (.str y) j c0, .Constant (.str z) k c1, .Constant (.int 1) l c2] X.env = [(false, eval (.Constant (.str y) j c0) X.env), (false, eval (.Constant (.str z) k c1) X.env), (false, eval (.Constant (.int 1) l c2) X.env)] := by rfl)
    (hbase : attributeBase o "replace" X.env (eval o X.env) = eval o X.env := by rfl) (hline : (apos.endLine == pos.line) = true := by rfl) :
    PET X (.Call (.Attribute o "replace" apos) [.Constant (.str y) j c0, .Constant (.str z) k c1, .Constant (.int 1) l c2] [] pos) (tRepl1 to y z) := by
  intro pins s σ H Q h0 I h
  refine PySem.wpAny_Call_method_lateS hbase (by rw [hst]; rfl) hline ?_
  rw [hst]
  refine wpAny_mono (PySem.wpAny_toks (ho.run pins s σ H _ I h)) (fun v s1 q => ?_) fun _ _ z => z.2
  obtain ⟨hk, v', H1, I1, r1, x, e1, hb, hb2, q⟩ := q
  subst e1
  obtain ⟨tx, e2⟩ := r1
  subst e2
  refine ⟨"str", _, PySem.F.plainAttrs_str, PySem.F.slot_str_replace, PySem.F.type_str_replace, typeIs_str _ _ _, (fun _ e => nomatch e), Calls.callWith_builtin rfl (Calls.evalArgs_plain (Calls.spliced_cons ?_))⟩
  refine Calls.Constant_str (k := j) (pos := c0) ?_
  show wpAny _ _ (spliced [(false, eval (.Constant (.str z) k c1) X.env), (false, eval (.Constant (.int 1) l c2) X.env)]) _ _ _
  refine Calls.spliced_cons (Calls.Constant_str (k := k) (pos := c1) ?_)
  refine Calls.spliced_cons (wpAny_Constant_int (Calls.spliced_nil ?_))
  exact call_repl1 (by show s1.toks ≠ 0; omega) (by show s1.toks + 1 ≠ 0; omega) (by show s1.toks ≠ s1.toks + 1; omega) hyz hb (fun a e => by rw [e]; exact hb2) fun t' k => ⟨.str (repl1 x y z), H1, I1.tok k, ⟨t', rfl⟩, q⟩

end Su
namespace Su
theorem lay_of_shaped {d : PyData} (h : SeqAt.shaped d = true) : d.canLay0 = true := (Bool.and_eq_true_iff.mp h).1
theorem rv_neD {K : PySem.W.Frag} {H : Hp} {x y : V} {d : PyData} (h1 : Dp K H x d) (h2 : Dp K H y d) (hs : SeqAt.shaped d = true) : RV (rNeD K) x y H (.bl false) := fun H1 e Q q =>
  ⟨d, d, dp_ex e h1, dp_ex e h2, hs, hs, by rw [SeqAt.eqv_refl d (lay_of_shaped hs)]; exact q H1 (Ex.refl H1)⟩
theorem rv_eqD {K : PySem.W.Frag} {H : Hp} {x y : V} {d : PyData} (h1 : Dp K H x d) (h2 : Dp K H y d) (hs : SeqAt.shaped d = true) : RV (rEqD K) x y H (.bl true) := fun H1 e Q q =>
  ⟨d, d, dp_ex e h1, dp_ex e h2, hs, hs, by rw [SeqAt.eqv_refl d (lay_of_shaped hs)]; exact q H1 (Ex.refl H1)⟩

end Su
namespace Su
theorem rv_isN {H : Hp} {v : V} : RV (fun x y H Q => y = .non ∧ Q (.bl (decide (x = .non))) H) v .non H (.bl (decide (v = .non))) := fun H1 _ _ q => ⟨rfl, q H1 (Ex.refl _)⟩
theorem rv_notN {H : Hp} {v : V} : RV (fun x y H Q => y = .non ∧ Q (.bl (!decide (x = .non))) H) v .non H (.bl (!decide (v = .non))) := fun H1 _ _ q => ⟨rfl, q H1 (Ex.refl _)⟩

end Su
namespace Su
theorem q_tryw {sp : Sp} {W : WX} {ta : TA} {vs : List V} {σ : L2.St} {H : Hp} {i : Nat} {D : Ends} (h : EvA ta σ H vs) (hs : ∀ H1, Ex H H1 → sp vs H1 (fun v H2 => D.nx (σ.set i (some v)) H2) (WE W σ)) : tAsg (tCallS sp (WE W) ta) (gName i) D σ H :=
  h H (Ex.refl H) _ fun H1 e1 => hs H1 e1

end Su
namespace Su
open TL
/-! ### pages: walked -/
theorem dpa_get2 {K : PySem.W.Frag} {H : Hp} : ∀ {xs : List V} {ds : List PyData} {i : Nat} {x : V} {d : PyData}, DpAll K H xs ds → xs[i]? = some x → ds[i]? = some d → Dp K H x d
  | _, _, 0, _, _, .cons h _, hx, hd => by
    obtain rfl := Option.some.inj hx
    obtain rfl := Option.some.inj hd
    exact h
  | _, _, i + 1, _, _, .cons _ h, hx, hd => dpa_get2 (i := i) h hx hd
theorem dpa_nn2 {K : PySem.W.Frag} {H : Hp} : ∀ {xs : List V} {ds : List PyData}, DpAll K H xs ds → xs.length = ds.length
  | _, _, .nil => rfl
  | _, _, .cons _ h => congrArg (· + 1) (dpa_nn2 h)
theorem mem_of_dropLast {α : Type} {l : List α} {a : α} (h : a ∈ l.dropLast) : a ∈ l := by
  rw [List.dropLast_eq_take] at h
  exact List.mem_of_mem_take h
theorem at_last {xs : List V} {v : V} (h : xs.getLast? = some v) : atI xs (-1) = some v := by
  rw [List.getLast?_eq_getElem?] at h
  have hl : 0 < xs.length := by
    cases xs with
    | nil => cases h
    | cons a r => exact Nat.succ_pos _
  unfold atI ixN
  rw [if_neg (by decide), if_pos (by omega), show (-1 + (xs.length : Int)).toNat = xs.length - 1 from by omega]
  exact h
theorem cut_last (xs : List V) : cutV xs none (some (-1)) = xs.dropLast := by
  unfold cutV
  have e : HT.sIx xs.length xs.length (some (-1)) = xs.length - 1 := by
    show (if (-1 : Int) < 0 then (-1 + (xs.length : Int)).toNat else min (-1 : Int).toNat xs.length) = _
    rw [if_pos (by decide)]
    omega
  rw [e, HT.sIx_none, List.drop_zero, Nat.sub_zero, List.dropLast_eq_take]
theorem pageOf_join0 : ∀ ds : List Deed, pageOf ds = Txt.join (Str.ofString "") (ds.map fun d => lineOf d ++ nlS)
  | [] => by apply ext_tl; rw [join_eq, tl_join]; rfl
  | d :: r => by
    apply ext_tl
    have ih := congrArg tl (pageOf_join0 r)
    rw [join_eq, tl_join] at ih
    show tl ((lineOf d ++ nlS) ++ pageOf r) = _
    rw [tl_append, ih, join_eq, tl_join]
    cases r with
    | nil => show tl (lineOf d ++ nlS) ++ [] = tl (lineOf d ++ nlS); rw [List.append_nil]
    | cons a b => rfl
theorem spl_hitS {s c : Nat} {r acc : List Nat} : spl [s] 0 acc (c :: r) = if c = s then acc :: spl [s] 0 [] r else spl [s] 0 (acc ++ [c]) r := by
  show (if pre [s] (c :: r) = true then acc :: spl [s] ([s].length - 1) [] r else spl [s] 0 (acc ++ [c]) r) = _
  have e : pre [s] (c :: r) = decide (c = s) := by
    by_cases h : c = s
    · subst h
      rw [decide_eq_true rfl]
      simp [pre]
    · rw [decide_eq_false h]
      simp [pre]
      exact h
  rw [e]
  by_cases h : c = s
  · rw [decide_eq_true h, if_pos rfl, if_pos h]
    rfl
  · rw [decide_eq_false h, if_neg Bool.false_ne_true, if_neg h]
theorem spl_sums {s : Nat} (hs : s ≠ 32) : ∀ (l acc : List Nat), ((spl [s] 0 acc l).map List.length).sum + (spl [s] 0 acc l).length = acc.length + l.length + 1 ∧ ((spl [s] 0 acc l).map (List.count 32)).sum = acc.count 32 + l.count 32
  | [], acc => by rw [spl_nil]; exact ⟨by simp, by simp⟩
  | c :: r, acc => by
    rw [spl_hitS]
    by_cases hc : c = s
    · rw [if_pos hc]
      obtain ⟨h1, h2⟩ := spl_sums hs r []
      have e : List.count 32 (c :: r) = List.count 32 r := List.count_cons_of_ne (by omega)
      refine ⟨?_, ?_⟩
      · simp only [List.map_cons, List.sum_cons, List.length_cons, List.length_nil] at h1 ⊢
        omega
      · rw [List.map_cons, List.sum_cons, h2, e]
        simp
    · rw [if_neg hc]
      obtain ⟨h1, h2⟩ := spl_sums hs r (acc ++ [c])
      have e : List.count 32 (c :: r) = List.count 32 [c] + List.count 32 r := by rw [show c :: r = [c] ++ r from rfl, List.count_append]
      refine ⟨?_, ?_⟩
      · rw [List.length_append] at h1
        rw [h1]
        simp only [List.length_cons, List.length_nil]
        omega
      · rw [h2, List.count_append, e]
        omega
theorem joinL_sums {s : Nat} (hs : s ≠ 32) : ∀ ws : List (List Nat), (joinL [s] ws).length ≤ (ws.map List.length).sum + ws.length ∧ (joinL [s] ws).count 32 = (ws.map (List.count 32)).sum
  | [] => ⟨Nat.le_refl _, rfl⟩
  | [a] => by
    show a.length ≤ ([a].map List.length).sum + 1 ∧ a.count 32 = ([a].map (List.count 32)).sum
    simp
  | a :: b :: r => by
    obtain ⟨h1, h2⟩ := joinL_sums hs (b :: r)
    have e : joinL [s] (a :: b :: r) = a ++ ([s] ++ joinL [s] (b :: r)) := rfl
    rw [e, List.length_append, List.length_append, List.count_append, List.count_append, h2]
    have e1 : List.count 32 [s] = 0 := by rw [List.count_eq_zero]; simp; exact fun z => hs z.symm
    rw [e1]
    simp only [List.map_cons, List.sum_cons, List.length_cons, List.length_nil] at h1 ⊢
    omega
theorem ins_line (z : Str) (k : Nat) (e : Str) (hb : blanks e = 0) : (Txt.join nlS ((Txt.split z nlS).take k ++ [e] ++ (Txt.split z nlS).drop k)).length ≤ z.length + e.length + 2 ∧ blanks (Txt.join nlS ((Txt.split z nlS).take k ++ [e] ++ (Txt.split z nlS).drop k)) = blanks z := by
  have es := split_spl z nlS (by decide +kernel) (kind_all (by decide +kernel) z)
  rw [nl_tl] at es
  obtain ⟨s1, s2⟩ := spl_sums (s := 10) (by decide) (tl z) []
  rw [← es] at s1 s2
  obtain ⟨j1, j2⟩ := joinL_sums (s := 10) (by decide) (((Txt.split z nlS).take k ++ [e] ++ (Txt.split z nlS).drop k).map tl)
  have et : tl (Txt.join nlS ((Txt.split z nlS).take k ++ [e] ++ (Txt.split z nlS).drop k)) = joinL [10] (((Txt.split z nlS).take k ++ [e] ++ (Txt.split z nlS).drop k).map tl) := by rw [join_eq, tl_join, nl_tl]
  have hb : (tl e).count 32 = 0 := hb
  unfold blanks
  rw [len_tl, et, len_tl z, len_tl e]
  generalize Txt.split z nlS = ws at s1 s2 j1 j2
  have sp : ∀ f : List Nat → Nat, ((ws.map tl).map f).sum = (((ws.take k).map tl).map f).sum + (((ws.drop k).map tl).map f).sum := fun f => by
    conv => lhs; rw [← List.take_append_drop k ws]
    rw [List.map_append, List.map_append, List.sum_append]
  have sl : ws.length = (ws.take k).length + (ws.drop k).length := by
    conv => lhs; rw [← List.take_append_drop k ws]
    rw [List.length_append]
  have p1 := sp List.length
  have p2 := sp (List.count 32)
  simp only [List.map_append, List.sum_append, List.length_append, List.length_map, List.map_cons, List.map_nil, List.sum_cons, List.sum_nil, List.length_cons, List.length_nil, List.count_nil] at *
  rw [hb] at j2
  omega
theorem sumStr (ws : List Str) : (ws.map (·.length)).sum = ((ws.map tl).map List.length).sum := by
  rw [List.map_map]
  rfl
theorem ins_fit (z : Str) (k : Nat) (e : Str) : (((Txt.split z nlS).take k ++ [e] ++ (Txt.split z nlS).drop k).map (·.length)).sum + ((Txt.split z nlS).take k ++ [e] ++ (Txt.split z nlS).drop k).length ≤ z.length + e.length + 2 := by
  have es := split_spl z nlS (by decide +kernel) (kind_all (by decide +kernel) z)
  rw [nl_tl] at es
  obtain ⟨s1, s2⟩ := spl_sums (s := 10) (by decide) (tl z) []
  rw [← es] at s1 s2
  rw [sumStr]
  rw [len_tl z, len_tl e]
  generalize Txt.split z nlS = ws at s1 s2
  have sp : ∀ f : List Nat → Nat, ((ws.map tl).map f).sum = (((ws.take k).map tl).map f).sum + (((ws.drop k).map tl).map f).sum := fun f => by
    conv => lhs; rw [← List.take_append_drop k ws]
    rw [List.map_append, List.map_append, List.sum_append]
  have sl : ws.length = (ws.take k).length + (ws.drop k).length := by
    conv => lhs; rw [← List.take_append_drop k ws]
    rw [List.length_append]
  have p1 := sp List.length
  simp only [List.map_append, List.sum_append, List.length_append, List.length_map, List.map_cons, List.map_nil, List.sum_cons, List.sum_nil, List.length_cons, List.length_nil] at *
  omega
theorem blanks_cut (z : Str) (lo hi : Option Int) : blanks (cutS z lo hi) ≤ blanks z := by
  unfold blanks cutS
  exact List.Sublist.count_le _ ((List.take_sublist _ _).trans (List.drop_sublist _ _))
theorem repl1_small (x y z : Str) (hy : y.length = 1) (hz : z.length = 1) : (repl1 x y z).length ≤ x.length + 1 ∧ blanks (repl1 x y z) ≤ blanks x + blanks z := by
  rcases repl1_tl x y z hy hz with e | ⟨c, e⟩
  · rw [e]
    exact ⟨by omega, by omega⟩
  · unfold blanks
    rw [len_tl, e]
    rw [len_tl] at hz
    have c1 := count_le (l := tl x) c
    have c2 := count_drop (l := tl x) c
    have hl := len_tl x
    refine ⟨?_, ?_⟩
    · rw [List.length_append, List.length_append, List.length_take, List.length_drop, hz]
      omega
    · rw [List.count_append, List.count_append]
      omega
def lfs (z : Str) : Nat := (tl z).count 10
theorem spl_lfs : ∀ (l acc : List Nat), 10 ∉ acc → (spl [10] 0 acc l).length = l.count 10 + 1 ∧ ∀ w ∈ spl [10] 0 acc l, w.count 10 = 0
  | [], acc, h => by
    rw [spl_nil]
    exact ⟨by simp, fun w hw => by rw [List.mem_singleton.mp hw]; exact List.count_eq_zero.mpr h⟩
  | c :: r, acc, h => by
    rw [spl_hitS]
    by_cases hc : c = 10
    · subst hc
      rw [if_pos rfl]
      obtain ⟨h2, h3⟩ := spl_lfs r [] (List.not_mem_nil)
      refine ⟨by rw [List.length_cons, h2, List.count_cons_self], fun w hw => ?_⟩
      rcases List.mem_cons.mp hw with rfl | hw
      · exact List.count_eq_zero.mpr h
      · exact h3 w hw
    · rw [if_neg hc]
      obtain ⟨h2, h3⟩ := spl_lfs r (acc ++ [c]) (by simp [h]; exact fun z => hc z.symm)
      exact ⟨by rw [h2, List.count_cons_of_ne hc], h3⟩
theorem joinL_lfs : ∀ ws : List (List Nat), (∀ w ∈ ws, w.count 10 = 0) → (joinL [10] ws).count 10 + 1 ≤ ws.length + 1
  | [], _ => by decide
  | [a], h => by
    show a.count 10 + 1 ≤ 2
    rw [h a List.mem_cons_self]
    decide
  | a :: b :: r, h => by
    have h1 := joinL_lfs (b :: r) fun w hw => h w (List.mem_cons_of_mem _ hw)
    have e : joinL [10] (a :: b :: r) = a ++ ([10] ++ joinL [10] (b :: r)) := rfl
    rw [e, List.count_append, List.count_append, h a List.mem_cons_self]
    have e1 : List.count 10 [10] = 1 := by decide
    rw [e1]
    simp only [List.length_cons] at h1 ⊢
    omega
theorem split_lfs (z : Str) : (Txt.split z nlS).length = lfs z + 1 ∧ ∀ w ∈ Txt.split z nlS, lfs w = 0 := by
  have es := split_spl z nlS (by decide +kernel) (kind_all (by decide +kernel) z)
  rw [nl_tl] at es
  obtain ⟨h1, h2⟩ := spl_lfs (tl z) [] List.not_mem_nil
  rw [← es] at h1 h2
  rw [List.length_map] at h1
  exact ⟨h1, fun w hw => h2 (tl w) (List.mem_map_of_mem hw)⟩
theorem ins_lfs (z : Str) (k : Nat) (e : Str) (he : lfs e = 0) : lfs (Txt.join nlS ((Txt.split z nlS).take k ++ [e] ++ (Txt.split z nlS).drop k)) ≤ lfs z + 2 := by
  obtain ⟨h1, h2⟩ := split_lfs z
  have et : tl (Txt.join nlS ((Txt.split z nlS).take k ++ [e] ++ (Txt.split z nlS).drop k)) = joinL [10] (((Txt.split z nlS).take k ++ [e] ++ (Txt.split z nlS).drop k).map tl) := by rw [join_eq, tl_join, nl_tl]
  unfold lfs
  rw [et]
  have j := joinL_lfs (((Txt.split z nlS).take k ++ [e] ++ (Txt.split z nlS).drop k).map tl) fun w hw => by
    obtain ⟨y, hy, rfl⟩ := List.mem_map.mp hw
    rcases List.mem_append.mp hy with hy | hy
    · rcases List.mem_append.mp hy with hy | hy
      · exact h2 y (List.mem_of_mem_take hy)
      · rw [List.mem_singleton.mp hy]; exact he
    · exact h2 y (List.mem_of_mem_drop hy)
  rw [List.length_map, List.length_append, List.length_append, List.length_take, List.length_drop] at j
  have e1 : [e].length = 1 := rfl
  rw [e1, h1] at j
  unfold lfs at j
  omega
theorem lfs_cut (z : Str) (lo hi : Option Int) : lfs (cutS z lo hi) ≤ lfs z := by
  unfold lfs cutS
  exact List.Sublist.count_le _ ((List.take_sublist _ _).trans (List.drop_sublist _ _))
theorem repl1_lfs (x y z : Str) (hy : y.length = 1) (hz : z.length = 1) : lfs (repl1 x y z) ≤ lfs x + 1 := by
  rcases repl1_tl x y z hy hz with e | ⟨c, e⟩
  · rw [e]
    omega
  · unfold lfs
    rw [e]
    rw [len_tl] at hz
    have c0 : ((tl x).take c).count 10 + ((tl x).drop c).count 10 = (tl x).count 10 := by rw [← List.count_append, List.take_append_drop]
    have c2 : ((tl x).drop (c + 1)).count 10 ≤ ((tl x).drop c).count 10 := by
      rw [← List.drop_drop]
      exact List.Sublist.count_le _ (List.drop_sublist _ _)
    have c3 := List.count_le_length (a := 10) (l := tl z)
    rw [List.count_append, List.count_append]
    omega
theorem pageOf_lfs {ds : List Deed} (h : ∀ d ∈ ds, DeedOk d) : lfs (pageOf ds) = ds.length := by
  have h1 := (split_lfs (pageOf ds)).1
  rw [pageOf_split h, List.length_append, List.length_map] at h1
  have : [Str.ofString ""].length = 1 := rfl
  omega
theorem words_small {d : Deed} (h : DeedOk d) (hs : seatsOf d ≤ 20) : (wordsOf d).length ≤ 64 := by
  unfold wordsOf
  rw [List.length_map]
  cases d with
  | simp wd ps =>
    obtain ⟨⟨form, hf, hs⟩, _⟩ := h
    obtain ⟨_, _, _, f, e, hfl, _⟩ := forms_word hf
    cases e
    rw [hs, List.length_map] at hfl
    show ps.length + 1 ≤ 64
    omega
  | found c s b seats =>
    have : seats.length ≤ 20 := hs
    unfold deedP
    simp only [List.length_cons]
    rw [List.length_flatten, List.map_map]
    have : (List.length ∘ seatP) = fun _ => 3 := rfl
    rw [this, List.map_const', List.sum_replicate_nat]
    omega
def notNo : PyData → Bool | .none => false | _ => true
theorem dp_notNo {K : PySem.W.Frag} {H : Hp} {x : V} {d : PyData} (h : Dp K H x d) : (!decide (x = .non)) = notNo d := by
  cases h <;> first | rfl | exact congrArg (!·) (decide_eq_false fun z => nomatch z)
theorem dpa_notNo {K : PySem.W.Frag} {H : Hp} : ∀ {xs : List V} {ds : List PyData}, DpAll K H xs ds → (xs.map fun x => !decide (x = V.non)).all id = ds.all notNo
  | _, _, .nil => rfl
  | _, _, .cons h r => by
    rw [List.map_cons, List.all_cons, List.all_cons, dpa_notNo r, id, dp_notNo h]
theorem notNo_deedR {ws : List Str} {d : PyData} (h : deedR ws = some d) : notNo d = true := by
  obtain ⟨xs, rfl⟩ := deedR_tup h
  rfl
theorem rows_some {ws : List Str} {ds ds0 : List PyData} (h : optAll (ws.map lineR) = some ds0) (hl : ds.length = ws.length) (hR : ∀ (i : Nat) (d : PyData), ds[i]? = some d → ∃ y, ws[i]? = some y ∧ d = (lineR y).getD .none) : ds = ds0 ∧ ds.all notNo = true := by
  have hos := optAll_some h
  have hl0 : ds0.length = ws.length := by
    have := congrArg List.length hos
    rw [List.length_map, List.length_map] at this
    exact this.symm
  have hd : ∀ (i : Nat) (d : PyData), ds[i]? = some d → ds0[i]? = some d ∧ notNo d = true := fun i d hi => by
    obtain ⟨y, hy, rfl⟩ := hR i d hi
    have e := congrArg (fun l => l[i]?) hos
    simp only [List.getElem?_map, hy, Option.map_some] at e
    cases h0 : ds0[i]? with
    | none => rw [h0] at e; cases e
    | some d0 =>
      rw [h0] at e
      have e := Option.some.inj e
      rw [e]
      exact ⟨rfl, notNo_deedR e⟩
  refine ⟨List.ext_getElem? fun i => ?_, List.all_eq_true.mpr fun d hm => ?_⟩
  · by_cases hi : i < ds.length
    · rw [List.getElem?_eq_getElem hi]
      exact (hd i _ (List.getElem?_eq_getElem hi)).1.symm
    · rw [List.getElem?_eq_none (by omega), List.getElem?_eq_none (by omega)]
  · obtain ⟨i, hi⟩ := List.mem_iff_getElem?.mp hm
    exact (hd i d hi).2
theorem rows_none {ws : List Str} {ds : List PyData} (h : optAll (ws.map lineR) = none) (hl : ds.length = ws.length) (hR : ∀ (i : Nat) (d : PyData), ds[i]? = some d → ∃ y, ws[i]? = some y ∧ d = (lineR y).getD .none) : ds.all notNo = false := by
  obtain ⟨i0, hi0⟩ := optAll_none h
  rw [List.getElem?_map] at hi0
  obtain ⟨y0, g0, hb0⟩ := Option.map_eq_some_iff.mp hi0
  have h0 : i0 < ds.length := by rw [hl]; exact (List.getElem?_eq_some_iff.mp g0).1
  obtain ⟨y, hy, e⟩ := hR i0 _ (List.getElem?_eq_getElem h0)
  obtain rfl := Option.some.inj (g0.symm.trans hy)
  rw [hb0] at e
  rw [← Bool.not_eq_true]
  intro z
  have := List.all_eq_true.mp z _ (List.getElem_mem h0)
  rw [e] at this
  cases this
theorem deeds_of {ds : List PyData} {Pr : Deed → Prop} (h : ∀ x ∈ ds, ∃ d, x = deedD d ∧ Pr d) : ∃ dl : List Deed, ds = dl.map deedD ∧ ∀ d ∈ dl, Pr d := by
  induction ds with
  | nil => exact ⟨[], rfl, fun _ h => nomatch h⟩
  | cons x r ih =>
    obtain ⟨d, rfl, hd⟩ := h x List.mem_cons_self
    obtain ⟨dl, rfl, hr⟩ := ih fun y hy => h y (List.mem_cons_of_mem _ hy)
    refine ⟨d :: dl, rfl, fun y hy => ?_⟩
    rcases List.mem_cons.mp hy with rfl | hy
    · exact hd
    · exact hr y hy
theorem pageR_lines {z : Str} {ds : List PyData} (h : pageR z = some ds) : ds.length = lfs z ∧ ∀ d ∈ ds, ∃ y : Str, y.length ≤ z.length ∧ blanks y ≤ blanks z ∧ lineR y = some d := by
  unfold pageR at h
  split at h
  · have hos := optAll_some h
    have hl := congrArg List.length hos
    rw [List.length_map, List.length_map, List.length_dropLast, (split_lfs z).1] at hl
    refine ⟨by omega, fun d hd => ?_⟩
    have : some d ∈ (Txt.split z nlS).dropLast.map lineR := by rw [hos]; exact List.mem_map_of_mem hd
    obtain ⟨y, hy, e⟩ := List.mem_map.mp this
    obtain ⟨w1, w2⟩ := (split_nl z).2 y (mem_of_dropLast hy)
    exact ⟨y, w1, w2, e⟩
  · cases h
theorem pl_page {z : Str} {ds : List PyData} (h : pageR z = some ds) (h1 : lfs z ≤ 1000) (h2 : blanks z ≤ 999) : PlD 4 (.list ds) := by
  obtain ⟨l1, l2⟩ := pageR_lines h
  refine .list (by omega) fun d hd => ?_
  obtain ⟨y, _, hb, e⟩ := l2 d hd
  exact pl_deedR e (by rw [(split_all y).2.1]; omega)
theorem ev_repl1 {to : TE} {σ : L2.St} {H : Hp} {x y z : Str} (h : Ev to σ H (.str x)) (h1 : x.length + z.length ≤ 100000) (h2 : (repl1 x y z).length ≤ 100000) : Ev (tRepl1 to y z) σ H (.str (repl1 x y z)) := fun H1 e Q q =>
  h H1 e _ fun H2 e2 => ⟨x, rfl, h1, h2, q H2 e2⟩
theorem s_retAnyL {te : TE} {σ : L2.St} {H : Hp} {D : Ends} (h : ∀ Q, te σ H Q) : tRet te D σ H := h _
theorem canAll : ∀ {xs : List PyData}, (∀ x ∈ xs, x.canLay0 = true) → PyData.canLayAll0 xs = true
  | [], _ => rfl
  | x :: r, h => by
    simp only [PyData.canLayAll0, Bool.and_eq_true]
    exact ⟨h x List.mem_cons_self, canAll fun y hy => h y (List.mem_cons_of_mem _ hy)⟩
theorem depAll {n : Nat} : ∀ {xs : List PyData}, (∀ x ∈ xs, x.depth ≤ n) → PyData.depthAll xs ≤ n
  | [], _ => by simp [PyData.depthAll]
  | x :: r, h => by
    have h1 := h x List.mem_cons_self
    have h2 := depAll fun y hy => h y (List.mem_cons_of_mem _ hy)
    simp only [PyData.depthAll]
    omega
def Flat (n : Nat) (d : PyData) : Prop := d.canLay0 = true ∧ d.depth ≤ n
theorem Flat.tup {n : Nat} {xs : List PyData} (h : ∀ x ∈ xs, Flat n x) : Flat (n + 1) (.tuple xs) := ⟨by simp only [PyData.canLay0]; exact canAll fun x hx => (h x hx).1, by
  have := depAll fun x hx => (h x hx).2
  simp only [PyData.depth]; omega⟩
theorem Flat.lst {n : Nat} {xs : List PyData} (h : ∀ x ∈ xs, Flat n x) : Flat (n + 1) (.list xs) := ⟨by simp only [PyData.canLay0]; exact canAll fun x hx => (h x hx).1, by
  have := depAll fun x hx => (h x hx).2
  simp only [PyData.depth]; omega⟩
theorem Flat.int {n : Nat} (i : Int) : Flat n (.int i) := ⟨by simp [PyData.canLay0], by simp [PyData.depth]⟩
theorem Flat.bool {n : Nat} (i : Bool) : Flat n (.bool i) := ⟨by simp [PyData.canLay0], by simp [PyData.depth]⟩
theorem Flat.str {n : Nat} {x : Str} (h : PyData.strOk x = true) : Flat n (.str x) := ⟨by simp only [PyData.canLay0]; exact h, by simp [PyData.depth]⟩
theorem strOk_name {x : Str} (h : NameL x) : PyData.strOk x = true := by
  unfold PyData.strOk
  rw [← Array.all_toList, List.all_eq_true]
  exact fun c hc => decide_eq_true (by have := (h.2.2 c hc).2; omega)
theorem flat_dw {n : Nat} {p : DW} (h : p.ok) : Flat n p.d := by
  cases p with
  | nm s => exact .str (strOk_name h)
  | no n => exact .int n
theorem forms_strOk {w : Str} {v : V} (h : getD' formsKv w = some v) : PyData.strOk w = true := by
  unfold getD' at h
  obtain ⟨kv, hkv, e⟩ := Option.map_eq_some_iff.mp h
  have hm := List.mem_of_find?_eq_some hkv
  have hp := List.find?_some hkv
  have hw : kv.1 = w := by
    have hp : (kv.1 == w) = true := hp
    simpa using hp
  rw [← hw]
  have : ∀ k ∈ formsKv, PyData.strOk k.1 = true := by decide +kernel
  exact this kv hm
theorem flat_deed {d : Deed} (h : DeedOk d) : Flat 3 (deedD d) := by
  cases d with
  | simp w ps =>
    obtain ⟨⟨form, hf, _⟩, hp⟩ := h
    refine Flat.tup fun x hx => ?_
    rcases List.mem_cons.mp hx with rfl | hx
    · exact .str (forms_strOk hf)
    · obtain ⟨p, hp', rfl⟩ := List.mem_map.mp hx
      exact flat_dw (hp p hp')
  | found c s b seats =>
    obtain ⟨hc, hs, _, _, hq⟩ := h
    refine Flat.tup fun x hx => ?_
    rcases List.mem_cons.mp hx with rfl | hx
    · exact .str (by decide +kernel)
    rcases List.mem_cons.mp hx with rfl | hx
    · exact .str (strOk_name hc)
    rcases List.mem_cons.mp hx with rfl | hx
    · exact .int _
    rcases List.mem_cons.mp hx with rfl | hx
    · exact .bool _
    obtain rfl := List.mem_singleton.mp hx
    refine Flat.tup fun y hy => ?_
    obtain ⟨q, hq', rfl⟩ := List.mem_map.mp hy
    refine Flat.tup (n := 0) fun z hz => ?_
    rcases List.mem_cons.mp hz with rfl | hz
    · exact .str (strOk_name (hq q hq').1)
    rcases List.mem_cons.mp hz with rfl | hz
    · exact .int _
    obtain rfl := List.mem_singleton.mp hz
    exact .int _
theorem shaped_deeds {ds : List Deed} (h : ∀ d ∈ ds, DeedOk d) : SeqAt.shaped (.list (ds.map deedD)) = true := by
  have := Flat.lst (n := 3) (xs := ds.map deedD) fun x hx => by
    obtain ⟨d, hd, rfl⟩ := List.mem_map.mp hx
    exact flat_deed (h d hd)
  unfold SeqAt.shaped
  rw [this.1, decide_eq_true (show (PyData.list (ds.map deedD)).depth ≤ 64 from Nat.le_trans this.2 (by decide))]
  rfl
section
variable {P : Program} {w : World} {K : PySem.W.Frag} {mg : Str → Option Value} {base : Heap}
def spPageText (K : PySem.W.Frag) : Sp := fun vs H Q _ => ∃ (a : Addr) (ts : List V) (ds : List Deed), vs = [.ref a] ∧ SqL K H a ts ∧ DpAll K H ts (ds.map deedD) ∧ (∀ d ∈ ds, DeedOk d ∧ (lineOf d).length ≤ 840) ∧ ds.length ≤ 9 ∧ ∀ H', Ex H H' → Q (.str (pageOf ds)) H'
theorem el_lines {K : PySem.W.Frag} {σ : L2.St} {H : Hp} {tl0 : TE} {a : Addr} {ts : List V} {ds : List Deed} {E : XK} {j : Nat} (h : Ev tl0 σ H (.ref a)) (hS : SqL K H a ts) (hD : DpAll K H ts (ds.map deedD)) (hok : ∀ d ∈ ds, DeedOk d ∧ (lineOf d).length ≤ 840) (hl : ds.length ≤ 9) (hw : ∀ x, wipe ((wipe σ [j]).set j (some x)) [j] = wipe σ [j])
    (hj : ∀ x, ((wipe σ [j]).set j (some x))[j]? = some (some x)) : EvL (tLc (iList K tl0) (gName j) tYes (tOp (fun x y H Q => ∃ i j, x = .str i ∧ y = .str j ∧ i.length + j.length ≤ sizeLine ∧ Q (.str (i ++ j)) H) (tCall (spDeedText K) [] E (tCons (tVar j) tNil)) (tC (.str nlS))) [j]) σ H ((ds.map fun d => lineOf d ++ nlS).map V.str) := by
  have hlen : ts.length = ds.length := by rw [dpa_nn2 hD, List.length_map]
  have hg : (ds.map fun d => lineOf d ++ nlS).map V.str = given ts.length (fun _ => true) (fun i => .str (lineOf (ds.getD i (.simp "" [])) ++ nlS)) := by
    rw [given_all', hlen, List.map_map]
    exact (range_mapV ds (fun d => V.str (lineOf d ++ nlS)) (.simp "" [])).symm
  rw [hg]
  refine el_lcLg _ _ h hS (by omega) fun i x Hb eb gx => ⟨_, tg_name, hw x, et_yes, fun _ => ?_⟩
  have hi : i < ds.length := by rw [← hlen]; exact (List.getElem?_eq_some_iff.mp gx).1
  have gd : ds[i]? = some ds[i] := List.getElem?_eq_getElem hi
  rw [List.getD_eq_getElem?_getD, gd]
  obtain ⟨o1, o2⟩ := hok _ (List.mem_of_getElem? gd)
  have n1 : nlS.length = 1 := by decide +kernel
  exact ev_addS (ev_call (ea_cons (ev_var (hj x)) ea_nil) fun H3 e3 Q3 q3 _ => ⟨x, ds[i], rfl, dp_ex (eb.trans e3) (dpa_get2 hD gx (by rw [List.getElem?_map, gd]; rfl)), o1, q3⟩) ev_c (by show (lineOf ds[i]).length + _ ≤ _; omega)
theorem page_fits {ds : List Deed} (hok : ∀ d ∈ ds, DeedOk d ∧ (lineOf d).length ≤ 840) (hl : ds.length ≤ 9) : ((ds.map fun d => lineOf d ++ nlS).map (·.length)).sum + (ds.map fun d => lineOf d ++ nlS).length * (Str.ofString "").length ≤ 16777216 := by
  have h0 : (Str.ofString "").length = 0 := by decide +kernel
  have n1 : nlS.length = 1 := by decide +kernel
  have := sum_len (ws := ds.map fun d => lineOf d ++ nlS) (m := 841) fun w hw => by
    obtain ⟨d, hd, rfl⟩ := List.mem_map.mp hw
    have := (hok d hd).2
    rw [len_tl, tl_append, List.length_append, ← len_tl, ← len_tl]
    omega
  rw [List.length_map] at this
  rw [h0]
  omega
theorem ok_page_text {f : Addr} {fd : FuncData} (F : Fun K "page_text" "page_text" s_page_text f fd) (T : Top K mg) : FnOk P w K mg base CX0 3 f fd ["deeds"] (spPageText K) := by
  have nd := sc_page_text.nd
  have G_deed_text : FnOk P w K mg base CX0 2 T.f_deed_text T.fd_deed_text ["deed"] (spDeedText K) := ok_deed_text T.F_deed_text T
  refine F.ok sc_page_text (fun vs H Q E h => ?_) (fun cdv A outer s H vs Q E hr h => ?_)
  · obtain ⟨a, ts, ds, rfl, _⟩ := h
    rfl
  · obtain ⟨a, ts, ds, rfl, hS, hD, hok, hl, q⟩ := h
    refine ⟨_, (pss_one (ps_ret (pe_join pe_str (pe_lc (own := [("deed", 1)]) (g := gName 1) (tt := tYes) rfl nd (pi_list (pv 0)) (blkOk_by (own := [("deed", 1)]) (N := Su.N_page_text) (sc := defScope s_page_text) (by decide +kernel)) (fun _ _ _ _ _ => (pg_name (i := 1) nd rfl (.inl rfl))) (fun _ _ _ _ _ => pts_nil) (fun _ _ _ _ _ => (pe_op op_add_str (pe_call G_deed_text (hr.mono (by omega)) (by rfl) T.m_deed_text T.F_deed_text.kp T.b_deed_text .nil pass0 (pa_cons (pv 1) pa_nil)) pe_str)))))), ?_⟩
    refine s_ret (v := .str (pageOf ds)) ?_ q
    rw [pageOf_join0]
    exact ev_join ev_c (el_lines (ev_var rfl) hS hD hok hl (fun _ => rfl) (fun _ => rfl)) (page_fits hok hl)
def spPageDeeds (K : PySem.W.Frag) (fN : Addr) : Sp := fun vs H Q E => ∃ z : Str, vs = [.str z] ∧ z.length ≤ 20000 ∧ (∀ ds, pageR z = some ds → ∀ H' p ts, Ex H H' → H' p = some (.lst ts) → DpAll K H' ts ds → Q (.ref p) H') ∧ (pageR z = none → ∀ H', Ex H H' → E (.ref fN) none H')
theorem last_of (ws : List Str) (h : 1 ≤ ws.length) : ∃ l, ws.getLast? = some l ∧ atI (ws.map V.str) (-1) = some (.str l) := by
  obtain ⟨l, hl⟩ : ∃ l, ws.getLast? = some l := by
    cases ws with
    | nil => simp at h
    | cons a r => exact ⟨_, List.getLast?_eq_some_getLast (by simp)⟩
  exact ⟨l, hl, at_last (by rw [List.getLast?_map, hl]; rfl)⟩
theorem okx_page_deeds {f : Addr} {fd : FuncData} (F : Fun K "page_deeds" "page_deeds" s_page_deeds f fd) (T : Top K mg) (DF_FORMS : ModD K w.params T.f_FORMS formsKv) : FnOk P w K mg base (L2.CX P w) 6 f fd ["text"] (spPageDeeds K T.f_NoDeed) := by
  have nd := sc_page_deeds.nd
  have G_deed_of : FnOk P w K mg base (L2.CX P w) 5 T.f_deed_of T.fd_deed_of ["text"] (spDeedX K T.f_NoDeed) := okx_deed_of T.F_deed_of T DF_FORMS
  refine F.okX sc_page_deeds (fun vs H Q E h => ?_) (fun cdv A outer s H vs Q E hr h => ?_)
  · obtain ⟨z, rfl, _⟩ := h
    rfl
  · obtain ⟨z, rfl, hz, q, qx⟩ := h
    obtain ⟨⟨w1, w2⟩, w3⟩ := split_nl z
    refine ⟨_, (pss_cons (ps_set (i := 1) nd rfl (.inl rfl) (pe_split (pv 0) pe_str))
      (pss_cons (ps_if (pt_cmpR op_ne (pe_ix ix_list (pv 1) (pe_un un_neg pe_int) (fun _ _ => rfl)) pe_str (nomark _))
        (pss_one (ps_raise rfl (takes_of rfl rfl rfl rfl) (pmk_own0 PySem.F.excBase_ValueError T.x_NoDeed T.m_NoDeed T.kp_NoDeed (raises_own T.sb_NoDeed T.ty_NoDeed) (by rfl))))
        pss_nil)
      (pss_one (ps_ret (pe_lcX (own := [("line", 2)]) (g := gName 2) (tt := tYes) rfl rfl (takes_of rfl rfl rfl rfl) rfl nd (pi_list (pe_slice sl_list (pv 1) po_none (po_some (pe_un un_neg pe_int)))) (blkOk_by (own := [("line", 2)]) (N := Su.N_page_deeds) (sc := defScope s_page_deeds) (by decide +kernel)) (fun _ _ _ _ _ => (pg_name (i := 2) nd rfl (.inl rfl))) (fun _ _ _ _ _ => pts_nil) (fun _ _ _ _ _ _ hx => (pe_call G_deed_of (hr.mono (by omega)) (by rfl) T.m_deed_of T.F_deed_of.kp T.b_deed_of .nil hx (pa_cons (pv 2) pa_nil)))))))), ?_⟩
    refine q_asgL (el_split (ev_var rfl) ev_c (by decide +kernel) (by omega) rfl) fun a H1 ha e1 h1 => ?_
    unfold pageR at q qx
    generalize Txt.split z nlS = ws at w1 w2 w3 h1 q qx
    have hS : SqL K H1 a (ws.map V.str) := sq_of h1
    obtain ⟨l, hl, hat⟩ := last_of ws w1
    refine q_when (b := !decide (l = Str.ofString "")) (et_is (et_test (ev_op (ev_op (ev_var rfl) (ev_un ev_c ru_neg) (rv_ixL hS hat)) ev_c (rv_ne rfl))) (by rw [str_eq])) (fun hb H2 e2 => ?_) (fun hb H2 e2 => ?_)
    · refine qx ?_ H2 (e1.trans e2)
      rw [if_neg]
      rw [hl]
      intro e
      rw [decide_eq_true (Option.some.inj e)] at hb
      cases hb
    have he : l = Str.ofString "" := by
      by_cases h : l = Str.ofString ""
      · exact h
      · rw [decide_eq_false h] at hb; cases hb
    rw [if_pos (by rw [hl, he])] at q qx
    have hS := ex_l e2 hS
    have e12 := e1.trans e2
    have hcut : cutV (ws.map V.str) none (some (-1)) = ws.dropLast.map V.str := by rw [cut_last, List.map_dropLast]
    have hsl : EvL (tSl (rSlL K) (tVar 1) tNoPart (tPart (tUn (rU fun i => .int (-i)) (tC (.int 1))))) [some (.str z), some (.ref a), none] H2 (ws.dropLast.map V.str) := by
      rw [← hcut]
      exact el_sl (ev_var rfl) eo_none (eo_some (ev_un ev_c ru_neg)) hS
    have gz : ∀ {i : Nat} {x : V}, (ws.dropLast.map V.str)[i]? = some x → ∃ y, x = .str y ∧ ws.dropLast[i]? = some y ∧ y.length ≤ 20000 := fun {i x} gx => by
      rw [List.getElem?_map] at gx
      obtain ⟨y, gw, rfl⟩ := Option.map_eq_some_iff.mp gx
      exact ⟨y, rfl, gw, Nat.le_trans (w3 y (mem_of_dropLast (List.mem_of_getElem? gw))).1 hz⟩
    have hll : (ws.dropLast.map V.str).length ≤ 40000 := by rw [List.length_map, List.length_dropLast]; omega
    cases ho : optAll (ws.dropLast.map lineR) with
    | none =>
      obtain ⟨i0, hi0⟩ := optAll_none ho
      rw [List.getElem?_map] at hi0
      obtain ⟨y0, g0, hb0⟩ := Option.map_eq_some_iff.mp hi0
      have h0 : i0 < (ws.dropLast.map V.str).length := by rw [List.length_map]; exact (List.getElem?_eq_some_iff.mp g0).1
      refine s_retAnyL (lcN_bad (σ := [some (.str z), some (.ref a), none]) (H := H2) hsl hll h0 fun i x Hb eb gx => ?_)
      obtain ⟨y, rfl, gy, hy⟩ := gz gx
      refine ⟨_, tg_name, rfl, ?_⟩
      have bad : lineR y = none → ∀ Hc, Ex Hb Hc → ∀ Q, (tCall (spDeedX K T.f_NoDeed) [] E (tCons (tVar 2) tNil)) [some (.str z), some (.ref a), some (.str y)] Hc Q := fun hn Hc ec => any_call (ea_cons (ev_var rfl) ea_nil) fun H4 e4 Q4 => ⟨y, rfl, hy, fun d hd => (by
        have hn : deedR (Txt.split y (Str.ofString " ")) = none := hn
        rw [hn] at hd; cases hd), fun _ H5 e5 => qx ho H5 (((e12.trans eb).trans ec).trans (e4.trans e5))⟩
      cases hr' : lineR y with
      | none => exact ⟨fun Hc ec Qc _ => bad hr' Hc ec Qc, fun _ Hc ec Qc => bad hr' Hc ec Qc⟩
      | some d =>
        refine ⟨fun Hc ec Qc qc => ?_, fun hi => by subst hi; rw [g0] at gy; cases gy; rw [hb0] at hr'; cases hr'⟩
        refine (ea_cons (ev_var rfl) ea_nil : EvA (tCons (tVar 2) tNil) _ Hc [.str y]) Hc (Ex.refl _) _ fun H4 e4 => ⟨y, rfl, hy, fun d' hd' H5 v e5 _ => qc v H5 (e4.trans e5), fun hn => by
          have hr' : deedR (Txt.split y (Str.ofString " ")) = some d := hr'
          rw [hr'] at hn; cases hn⟩
    | some ds =>
      have hos := optAll_some ho
      have hdl : ds.length = ws.dropLast.length := by
        have := congrArg List.length hos
        rw [List.length_map, List.length_map] at this
        exact this.symm
      refine s_retDs (eds_N (fun i d => ds[i]? = some d) hsl hll fun i x Hb eb gx => ?_) fun p ts ds' H4 e4 h4 hd4 hl4 hR => ?_
      · obtain ⟨y, rfl, gy, hy⟩ := gz gx
        refine ⟨_, tg_name, rfl, fun Hc ec Qc qc => ?_⟩
        have hi : i < ds.length := by rw [hdl]; exact (List.getElem?_eq_some_iff.mp gy).1
        have hr' : lineR y = some ds[i] := by
          have := congrArg (fun l => l[i]?) hos
          simp only [List.getElem?_map, gy, List.getElem?_eq_getElem hi, Option.map_some] at this
          exact Option.some.inj this
        refine (ea_cons (ev_var rfl) ea_nil : EvA (tCons (tVar 2) tNil) _ Hc [.str y]) Hc (Ex.refl _) _ fun H4 e4 => ⟨y, rfl, hy, fun d' hd' H5 v e5 hv => ?_, fun hn => by
          have hr' : deedR (Txt.split y (Str.ofString " ")) = some ds[i] := hr'
          rw [hr'] at hn; cases hn⟩
        have : d' = ds[i] := Option.some.inj (hd'.symm.trans hr')
        subst this
        exact qc v H5 _ (e4.trans e5) hv (nol_deedR hr') (List.getElem?_eq_getElem hi)
      · have : ds' = ds := by
          apply List.ext_getElem?
          intro i
          by_cases hi : i < ds'.length
          · rw [List.getElem?_eq_getElem hi]
            exact (hR i _ (List.getElem?_eq_getElem hi)).symm
          · rw [List.getElem?_eq_none (by omega), List.getElem?_eq_none (by rw [List.length_map] at hl4; omega)]
        subst this
        exact q _ ho H4 p ts (e12.trans e4) h4 hd4
def spSpoilt (K : PySem.W.Frag) : Sp := fun vs H Q _ => ∃ (z : Str) (way at' : Int), vs = [.str z, .int way, .int at'] ∧ z.length ≤ 8000 ∧ (-(10 ^ 18) < at' ∧ at' < 10 ^ 18) ∧ ∀ H' z', Ex H H' → z'.length ≤ z.length + 10 → blanks z' ≤ blanks z + 1 → lfs z' ≤ lfs z + 2 → Q (.str z') H'
theorem ok__law_spoilt {f : Addr} {fd : FuncData} (F : Fun K "_law_spoilt" "_law_spoilt" s__law_spoilt f fd) (T : Top K mg) : FnOk P w K mg base CX0 1 f fd ["_law_page", "_law_way", "_law_at"] (spSpoilt K) := by
  have nd := sc__law_spoilt.nd
  refine F.ok sc__law_spoilt (fun vs H Q E h => ?_) (fun cdv A outer s H vs Q E hr h => ?_)
  · obtain ⟨z, way, at', rfl, _⟩ := h
    rfl
  · obtain ⟨z, way, at', rfl, hz, ⟨a1, a2⟩, q⟩ := h
    refine ⟨_, (pss_cons (ps_if (pt_cmpR op_eq (pv 1) pe_int (nomark _))
        (pss_one (ps_ret (pe_slice sl_str (pv 0) po_none (po_some (pe_un un_neg pe_int)))))
        pss_nil)
      (pss_cons (ps_if (pt_cmpR op_eq (pv 1) pe_int (nomark _))
        (pss_one (ps_ret (pe_op op_add_str (pv 0) pe_str)))
        pss_nil)
      (pss_cons (ps_if (pt_cmpR op_eq (pv 1) pe_int (nomark _))
        (pss_one (ps_ret (pe_op op_add_str pe_str (pv 0))))
        pss_nil)
      (pss_cons (ps_set (i := 3) nd rfl (.inl rfl) (pe_split (pv 0) pe_str))
      (pss_cons (ps_set (i := 4) nd rfl (.inl rfl) (pe_op op_mod (pv 2) (pe_callB call_len_seq (by rfl) T.m_len PySem.boot_len (pa_cons (pv 3) pa_nil))))
      (pss_cons (ps_if (pt_cmpR op_eq (pv 1) pe_int (nomark _))
        (pss_one (ps_ret (pe_join pe_str (pe_op op_cat (pe_op op_cat (pe_slice sl_list (pv 3) po_none (po_some (pv 4))) (pe_lst (pa_cons pe_str pa_nil))) (pe_slice sl_list (pv 3) (po_some (pv 4)) po_none)))))
        pss_nil)
      (pss_cons (ps_if (pt_cmpR op_eq (pv 1) pe_int (nomark _))
        (pss_setk (i := 5) nd rfl (.inl rfl) (pek_op op_mod (pv 2) (pek_op op_add (pe_callB call_len_str (by rfl) T.m_len PySem.boot_len (pa_cons (pv 0) pa_nil)) pek_int)) (psst_one' (pst_ret' (pet_op' op_add_str (pe_slice sl_str (pv 0) po_none (po_some (pv 5))) (pet_repl1 (pe_slice sl_str (pv 0) (po_some (pv 5)) po_none))))))
        pss_nil)
      (pss_cons (ps_if (pt_cmpR op_eq (pv 1) pe_int (nomark _))
        (pss_setk (i := 5) nd rfl (.inl rfl) (pek_op op_mod (pv 2) (pek_op op_add (pe_callB call_len_str (by rfl) T.m_len PySem.boot_len (pa_cons (pv 0) pa_nil)) pek_int)) (psst_one' (pst_ret' (pet_op' op_add_str (pe_slice sl_str (pv 0) po_none (po_some (pv 5))) (pet_repl1 (pe_slice sl_str (pv 0) (po_some (pv 5)) po_none))))))
        pss_nil)
      (pss_one (ps_ret (pv 0))))))))))), ?_⟩
    have la : ∀ x y : Str, (x ++ y).length = x.length + y.length := fun x y => by rw [len_tl, tl_append, List.length_append, ← len_tl, ← len_tl]
    have ba : ∀ x y : Str, blanks (x ++ y) = blanks x + blanks y := fun x y => by unfold blanks; rw [tl_append, List.count_append]
    have n1 : nlS.length = 1 := by decide +kernel
    have n2 : blanks nlS = 0 := by decide +kernel
    have n3 : (Str.ofString " ").length = 1 := by decide +kernel
    have n6 : lfs nlS = 1 := by decide +kernel
    have fa : ∀ x y : Str, lfs (x ++ y) = lfs x + lfs y := fun x y => by unfold lfs; rw [tl_append, List.count_append]
    have fc := lfs_cut z
    have n4 : blanks (Str.ofString " ") = 1 := by decide +kernel
    refine q_when (by walk_at "et") (fun _ H4 e4 => ?_) (fun _ H4 e4 => ?_)
    · have c1 := cutS_length z none (some (-1))
      have c2 := blanks_cut z none (some (-1))
      exact s_ret (ev_slS (ev_var rfl) eo_none (eo_some (ev_un ev_c ru_neg)) (by omega)) fun H5 e5 => q H5 _ (e4.trans e5) (by omega) (by omega) (by have := fc none (some (-1)); omega)
    refine q_when (by walk_at "et") (fun _ H5 e5 => ?_) (fun _ H5 e5 => ?_)
    · exact s_ret (ev_addS (ev_var rfl) ev_c (by show z.length + nlS.length ≤ _; omega)) fun H6 e6 => q H6 _ ((e4.trans e5).trans e6) (by show (z ++ nlS).length ≤ _; rw [la]; omega) (by show blanks (z ++ nlS) ≤ _; rw [ba]; omega) (by show lfs (z ++ nlS) ≤ _; rw [fa]; omega)
    refine q_when (by walk_at "et") (fun _ H6 e6 => ?_) (fun _ H6 e6 => ?_)
    · exact s_ret (ev_addS ev_c (ev_var rfl) (by show nlS.length + z.length ≤ _; omega)) fun H7 e7 => q H7 _ ((e4.trans e5).trans (e6.trans e7)) (by show (nlS ++ z).length ≤ _; rw [la]; omega) (by show blanks (nlS ++ z) ≤ _; rw [ba]; omega) (by show lfs (nlS ++ z) ≤ _; rw [fa]; omega)
    have e46 := (e4.trans e5).trans e6
    obtain ⟨⟨w1, w2⟩, w3⟩ := split_nl z
    refine q_asgL (el_split (ev_var rfl) ev_c (by decide +kernel) (by omega) rfl) fun a H7 ha e7 h7 => ?_
    have hS : SqL K H7 a ((Txt.split z nlS).map V.str) := sq_of h7
    obtain ⟨he, hhe⟩ : ∃ he : Nat, at' % (((Txt.split z nlS).length : Nat) : Int) = (he : Int) := ⟨(at' % (((Txt.split z nlS).length : Nat) : Int)).toNat, by have := Int.emod_nonneg at' (show (((Txt.split z nlS).length : Nat) : Int) ≠ 0 by omega); omega⟩
    refine q_asg (v := .int (he : Int)) (ev_is (ev_op (ev_var rfl) (ev_len (ev_var rfl) hS) (rv_mod (by rw [List.length_map]; omega))) (by rw [List.length_map, hhe])) fun H8 e8 => ?_
    have e48 := e46.trans (e7.trans e8)
    have hS := ex_l e8 hS
    obtain ⟨pl, hpl⟩ : ∃ pl : Nat, at' % ((z.length : Int) + 1) = (pl : Int) := ⟨(at' % ((z.length : Int) + 1)).toNat, by have := Int.emod_nonneg at' (show (z.length : Int) + 1 ≠ 0 by omega); omega⟩
    have hpl2 : pl ≤ z.length := by have := Int.emod_lt_of_pos at' (show (0 : Int) < (z.length : Int) + 1 by omega); omega
    have hb1 : blanks (cutS z none (some (pl : Int))) + blanks (cutS z (some (pl : Int)) none) = blanks z := by unfold blanks; rw [tl_cutTo, tl_cutFrom]; exact count_le pl
    have hf1 : lfs (cutS z none (some (pl : Int))) + lfs (cutS z (some (pl : Int)) none) = lfs z := by
      unfold lfs
      rw [tl_cutTo, tl_cutFrom, ← List.count_append, List.take_append_drop]
    have hc1 : (cutS z none (some (pl : Int))).length + (cutS z (some (pl : Int)) none).length = z.length := by
      rw [len_tl, len_tl, tl_cutTo, tl_cutFrom, List.length_take, List.length_drop, len_tl]
      rw [len_tl] at hpl2
      omega
    refine q_when (by walk_at "et") (fun _ H9 e9 => ?_) (fun _ H9 e9 => ?_)
    · have hS := ex_l e9 hS
      obtain ⟨l1, l2⟩ := ins_line z he (Str.ofString "enter") (by decide +kernel)
      have n5 : (Str.ofString "enter").length = 5 := by decide +kernel
      have hcat : cutV ((Txt.split z nlS).map V.str) none (some (he : Int)) ++ [.str "enter"] ++ cutV ((Txt.split z nlS).map V.str) (some (he : Int)) none = ((Txt.split z nlS).take he ++ [Str.ofString "enter"] ++ (Txt.split z nlS).drop he).map V.str := by
        rw [cutT, cutD, List.map_append, List.map_append]
        rfl
      have hfit : ((((Txt.split z nlS).take he ++ [Str.ofString "enter"] ++ (Txt.split z nlS).drop he).map (·.length)).sum + ((Txt.split z nlS).take he ++ [Str.ofString "enter"] ++ (Txt.split z nlS).drop he).length * nlS.length) ≤ 16777216 := by
        have := ins_fit z he (Str.ofString "enter")
        rw [n1, Nat.mul_one]
        omega
      refine s_ret (v := .str (Txt.join nlS ((Txt.split z nlS).take he ++ [Str.ofString "enter"] ++ (Txt.split z nlS).drop he))) (ev_join ev_c (hcat ▸ el_cat (el_cat (el_sl (ev_var rfl) eo_none (eo_some (ev_var rfl)) hS) (el_lst (ea_cons ev_c ea_nil) (by decide)) ?_) (el_sl (ev_var rfl) (eo_some (ev_var rfl)) eo_none hS) ?_) hfit) fun H10 e10 => q H10 _ (e48.trans (e9.trans e10)) (by omega) (by omega) (ins_lfs z he _ (by decide +kernel))
      · rw [cutT, List.length_map, List.length_take]
        show _ + 1 ≤ _
        omega
      · rw [cutT, cutD, List.length_append, List.length_map, List.length_map, List.length_take, List.length_drop]
        show _ + 1 + _ ≤ _
        omega
    refine q_when (by walk_at "et") (fun _ H10 e10 => ?_) (fun _ H10 e10 => ?_)
    · obtain ⟨r1, r2⟩ := repl1_small (cutS z (some (pl : Int)) none) (Str.ofString " ") nlS n3 n1
      refine q_asg (v := .int (pl : Int)) (ev_is (ev_op (ev_var rfl) (ev_op (ev_cb (ea_cons (ev_var rfl) ea_nil) (rc_lenS (by omega))) ev_c rv_I0) (rv_mod (by omega))) (by rw [hpl])) fun H11 e11 => ?_
      exact s_ret (ev_addS (ev_slS (ev_var rfl) eo_none (eo_some (ev_var rfl)) (by omega)) (ev_repl1 (ev_slS (ev_var rfl) (eo_some (ev_var rfl)) eo_none (by omega)) (by show _ + nlS.length ≤ _; omega) (by show (repl1 _ (Str.ofString " ") nlS).length ≤ _; omega)) (by show _ + (repl1 _ (Str.ofString " ") nlS).length ≤ _; omega)) fun H12 e12 => q H12 _ (e48.trans ((e9.trans e10).trans (e11.trans e12))) (by rw [la]; show _ + (repl1 _ (Str.ofString " ") nlS).length ≤ _; omega) (by rw [ba]; show _ + blanks (repl1 _ (Str.ofString " ") nlS) ≤ _; omega) (by rw [fa]; show _ + lfs (repl1 _ (Str.ofString " ") nlS) ≤ _; have := repl1_lfs (cutS z (some (pl : Int)) none) (Str.ofString " ") nlS n3 n1; omega)
    refine q_when (by walk_at "et") (fun _ H11 e11 => ?_) (fun _ H11 e11 => ?_)
    · obtain ⟨r1, r2⟩ := repl1_small (cutS z (some (pl : Int)) none) nlS (Str.ofString " ") n1 n3
      refine q_asg (v := .int (pl : Int)) (ev_is (ev_op (ev_var rfl) (ev_op (ev_cb (ea_cons (ev_var rfl) ea_nil) (rc_lenS (by omega))) ev_c rv_I0) (rv_mod (by omega))) (by rw [hpl])) fun H12 e12 => ?_
      exact s_ret (ev_addS (ev_slS (ev_var rfl) eo_none (eo_some (ev_var rfl)) (by omega)) (ev_repl1 (ev_slS (ev_var rfl) (eo_some (ev_var rfl)) eo_none (by omega)) (by show _ + (Str.ofString " ").length ≤ _; omega) (by show (repl1 _ nlS (Str.ofString " ")).length ≤ _; omega)) (by show _ + (repl1 _ nlS (Str.ofString " ")).length ≤ _; omega)) fun H13 e13 => q H13 _ (e48.trans ((e9.trans e10).trans (e11.trans (e12.trans e13)))) (by rw [la]; show _ + (repl1 _ nlS (Str.ofString " ")).length ≤ _; omega) (by rw [ba]; show _ + blanks (repl1 _ nlS (Str.ofString " ")) ≤ _; omega) (by rw [fa]; show _ + lfs (repl1 _ nlS (Str.ofString " ")) ≤ _; have := repl1_lfs (cutS z (some (pl : Int)) none) nlS (Str.ofString " ") n1 n3; omega)
    exact s_ret (ev_var rfl) fun H12 e12 => q H12 _ (e48.trans ((e9.trans e10).trans (e11.trans e12))) (by omega) (by omega) (by omega)
def spAllRead (K : PySem.W.Frag) : Sp := fun vs H Q _ => ∃ z : Str, vs = [.str z] ∧ z.length ≤ 20000 ∧ (∀ ds, pageR z = some ds → ∀ H' p ts, Ex H H' → H' p = some (.lst ts) → DpAll K H' ts ds → Q (.ref p) H') ∧ (pageR z = none → ∀ H', Ex H H' → Q .non H')
theorem ok__law_all_read {f : Addr} {fd : FuncData} (F : Fun K "_law_all_read" "_law_all_read" s__law_all_read f fd) (T : Top K mg) : FnOk P w K mg base CX0 3 f fd ["_law_page"] (spAllRead K) := by
  have nd := sc__law_all_read.nd
  have G__law_read : FnOk P w K mg base CX0 2 T.f__law_read T.fd__law_read ["_law_line_here"] (spRead K) := ok__law_read T.F__law_read T
  refine F.ok sc__law_all_read (fun vs H Q E h => ?_) (fun cdv A outer s H vs Q E hr h => ?_)
  · obtain ⟨z, rfl, _⟩ := h
    rfl
  · obtain ⟨z, rfl, hz, q, qx⟩ := h
    obtain ⟨⟨w1, w2⟩, w3⟩ := split_nl z
    refine ⟨_, (pss_cons (ps_set (i := 1) nd rfl (.inl rfl) (pe_split (pv 0) pe_str))
      (pss_cons (ps_if (pt_cmpR op_ne (pe_ix ix_list (pv 1) (pe_un un_neg pe_int) (fun _ _ => rfl)) pe_str (nomark _))
        (pss_one (ps_ret pe_non))
        pss_nil)
      (pss_cons (ps_setLc (i := 2) (own := [("_law_line_here", 3)]) (g := gName 3) (tt := tYes) rfl nd rfl rfl (sw_true rfl rfl rfl (by decide +kernel)) (pi_list (pe_slice sl_list (pv 1) po_none (po_some (pe_un un_neg pe_int)))) (blkOk_by (own := [("_law_line_here", 3)]) (N := Su.N__law_all_read) (sc := defScope s__law_all_read) (by decide +kernel)) (fun _ _ _ _ _ => (pg_name (i := 3) nd rfl (.inl rfl))) (fun _ _ _ _ _ => pts_nil) (fun _ _ _ _ _ => (pe_call G__law_read (hr.mono (by omega)) (by rfl) T.m__law_read T.F__law_read.kp T.b__law_read .nil pass0 (pa_cons (pv 3) pa_nil))))
      (pss_cons (ps_if (pt_not (pt_val (pe_callB (cr_all rfl) (by rfl) T.m_all (by decide +kernel) (pa_cons (pe_lc (own := [("_law_row", 4)]) (g := gName 4) (tt := tYes) rfl nd (pi_list (pv 2)) (blkOk_by (own := [("_law_row", 4)]) (N := Su.N__law_all_read) (sc := defScope s__law_all_read) (by decide +kernel)) (fun _ _ _ _ _ => (pg_name (i := 4) nd rfl (.inl rfl))) (fun _ _ _ _ _ => pts_nil) (fun _ _ _ _ _ => (pe_cmpR op_notN (pv 4) pe_non (nomark _)))) pa_nil))))
        (pss_one (ps_ret pe_non))
        pss_nil)
      (pss_one (ps_ret (pv 2))))))), ?_⟩
    refine q_asgL (el_split (ev_var rfl) ev_c (by decide +kernel) (by omega) rfl) fun a H1 ha e1 h1 => ?_
    unfold pageR at q qx
    generalize Txt.split z nlS = ws at w1 w2 w3 h1 q qx
    have hS : SqL K H1 a (ws.map V.str) := sq_of h1
    obtain ⟨l, hl, hat⟩ := last_of ws w1
    refine q_when (b := !decide (l = Str.ofString "")) (et_is (et_test (ev_op (ev_op (ev_var rfl) (ev_un ev_c ru_neg) (rv_ixL hS hat)) ev_c (rv_ne rfl))) (by rw [str_eq])) (fun hb H2 e2 => ?_) (fun hb H2 e2 => ?_)
    · refine s_ret ev_c fun H3 e3 => qx ?_ H3 ((e1.trans e2).trans e3)
      rw [if_neg]
      rw [hl]
      intro e
      rw [decide_eq_true (Option.some.inj e)] at hb
      cases hb
    have he : l = Str.ofString "" := by
      by_cases h : l = Str.ofString ""
      · exact h
      · rw [decide_eq_false h] at hb; cases hb
    rw [if_pos (by rw [hl, he])] at q qx
    have hS := ex_l e2 hS
    have e12 := e1.trans e2
    have hcut : cutV (ws.map V.str) none (some (-1)) = ws.dropLast.map V.str := by rw [cut_last, List.map_dropLast]
    have hsl : EvL (tSl (rSlL K) (tVar 1) tNoPart (tPart (tUn (rU fun i => .int (-i)) (tC (.int 1))))) [some (.str z), some (.ref a), none, none, none] H2 (ws.dropLast.map V.str) := by
      rw [← hcut]
      exact el_sl (ev_var rfl) eo_none (eo_some (ev_un ev_c ru_neg)) hS
    have hll : (ws.dropLast.map V.str).length ≤ 40000 := by rw [List.length_map, List.length_dropLast]; omega
    refine q_asgDs (eds_N (fun i d => ∃ y, ws.dropLast[i]? = some y ∧ d = (lineR y).getD .none) hsl hll fun i x Hb eb gx => ?_) fun p ts ds H3 hp e3 h3 hd3 hl3 hnl hR => ?_
    · rw [List.getElem?_map] at gx
      obtain ⟨y, gw, rfl⟩ := Option.map_eq_some_iff.mp gx
      have hy := Nat.le_trans (w3 y (mem_of_dropLast (List.mem_of_getElem? gw))).1 hz
      refine ⟨_, tg_name, rfl, fun Hc ec Qc qc => ?_⟩
      refine (ea_cons (ev_var rfl) ea_nil : EvA (tCons (tVar 3) tNil) _ Hc [.str y]) Hc (Ex.refl _) _ fun H4 e4 => ⟨y, rfl, hy, fun d' hd' H5 v e5 hv => ?_, fun hn H5 e5 => ?_⟩
      · have hd' : lineR y = some d' := hd'
        exact qc v H5 d' (e4.trans e5) hv (nol_deedR hd') ⟨y, gw, by rw [hd']; rfl⟩
      · have hn : lineR y = none := hn
        exact qc .non H5 .none (e4.trans e5) .non .none ⟨y, gw, by rw [hn]; rfl⟩
    have hl3 : ds.length = ws.dropLast.length := by rw [hl3, List.length_map]
    have htl : ts.length = ds.length := dpa_nn2 hd3
    have hlen : ws.dropLast.length ≤ 40000 := by rw [List.length_dropLast]; omega
    refine q_when (b := !(ds.all notNo)) (et_not (et_B (ev_allB (bs := ts.map fun x => !decide (x = V.non)) ?_ (dpa_notNo hd3)))) (fun hb H4 e4 => ?_) (fun hb H4 e4 => ?_)
    · have hg : (ts.map fun x => !decide (x = V.non)).map V.bl = given ts.length (fun _ => true) (fun i => .bl (!decide (ts.getD i .non = .non))) := by
        rw [given_all', List.map_map]
        exact (range_mapV ts (fun x => V.bl (!decide (x = V.non))) .non).symm
      rw [hg]
      refine el_lcLg _ _ (ev_var rfl) (sq_of h3) (by omega) fun i x Hb eb gx => ⟨_, tg_name, rfl, et_yes, fun _ => ?_⟩
      rw [List.getD_eq_getElem?_getD, gx]
      exact ev_op (ev_var rfl) ev_c rv_notN
    · refine s_ret ev_c fun H5 e5 => qx ?_ H5 ((e12.trans e3).trans (e4.trans e5))
      cases ho : optAll (ws.dropLast.map lineR) with
      | none => rfl
      | some ds0 =>
        rw [(rows_some ho hl3 hR).2] at hb
        cases hb
    · cases ho : optAll (ws.dropLast.map lineR) with
      | none =>
        rw [rows_none ho hl3 hR] at hb
        cases hb
      | some ds0 =>
        obtain ⟨rfl, _⟩ := rows_some ho hl3 hR
        exact s_ret (ev_var rfl) fun H5 e5 => q _ ho H5 p ts ((e12.trans e3).trans (e4.trans e5)) ((e4.trans e5) _ _ h3) (dpa_ex (e4.trans e5) hd3)
set_option maxHeartbeats 4000000 in
theorem ok_law {f : Addr} {fd : FuncData} (F : Fun K "law" "law" s_law f fd) (T : Top K mg) (DF_FORMS : ModD K w.params T.f_FORMS formsKv) : FnOk P w K mg base CX0 7 f fd ["_law_script"] (spLaw K) := by
  have nd := sc_law.nd
  have G__law_draws : FnOk P w K mg base CX0 1 T.f__law_draws T.fd__law_draws ["_law_script", "_law_many"] (spDraws K) := ok__law_draws T.F__law_draws T
  have G__law_deed : FnOk P w K mg base CX0 2 T.f__law_deed T.fd__law_deed ["_law_some"] (spLawDeed K) := ok__law_deed T.F__law_deed T
  have G__law_line : FnOk P w K mg base CX0 1 T.f__law_line T.fd__law_line ["_law_deed_here"] (spDeedText K) := ok__law_line T.F__law_line T
  have G_page_text : FnOk P w K mg base CX0 3 T.f_page_text T.fd_page_text ["deeds"] (spPageText K) := ok_page_text T.F_page_text T
  have G__law_spoilt : FnOk P w K mg base CX0 1 T.f__law_spoilt T.fd__law_spoilt ["_law_page", "_law_way", "_law_at"] (spSpoilt K) := ok__law_spoilt T.F__law_spoilt T
  have G__law_all_read : FnOk P w K mg base CX0 3 T.f__law_all_read T.fd__law_all_read ["_law_page"] (spAllRead K) := ok__law_all_read T.F__law_all_read T
  have G_page_deeds : FnOk P w K mg base (L2.CX P w) 6 T.f_page_deeds T.fd_page_deeds ["text"] (spPageDeeds K T.f_NoDeed) := okx_page_deeds T.F_page_deeds T DF_FORMS
  have G__law_same : FnOk P w K mg base CX0 5 T.f__law_same T.fd__law_same ["_law_told", "_law_due"] (spSame K 4) := ok__law_same T 4
  refine F.ok sc_law (fun vs H Q E h => ?_) (fun cdv A outer s H vs Q E hr h => ?_)
  · obtain ⟨a, ns, rfl, _⟩ := h
    rfl
  · obtain ⟨a, ns, rfl, hS, hlen, q⟩ := h
    refine ⟨_, (pss_cons (ps_set (i := 1) nd rfl (.inr rfl) (pe_call G__law_draws (hr.mono (by omega)) (by rfl) T.m__law_draws T.F__law_draws.kp T.b__law_draws .nil pass0 (pa_cons (pv 0) (pa_cons pe_int pa_nil))))
      (pss_cons (ps_setLc (i := 2) (own := [("_law_at", 9)]) (g := gName 9) (tt := tYes) rfl nd rfl rfl (sw_true rfl rfl rfl (by decide +kernel)) (pi_range1 rfl T.m_range (pa_cons (pe_op op_mod (pe_ix ix_list (pv 1) pe_int (fun _ _ => rfl)) pe_int) pa_nil)) (blkOk_by (own := [("_law_at", 9)]) (N := Su.N_law) (sc := defScope s_law) (by decide +kernel)) (fun _ _ _ _ _ => (pg_name (i := 9) nd rfl (.inl rfl))) (fun _ _ _ _ _ => pts_nil) (fun _ _ _ _ _ => (pe_call G__law_deed (hr.mono (by omega)) (by rfl) T.m__law_deed T.F__law_deed.kp T.b__law_deed .nil pass0 (pa_cons (pe_slice (sl_listK (K := K) rfl) (pv 1) (po_some (pe_op op_add pe_int (pe_op op_mul pe_int (pv 9)))) po_none) pa_nil))))
      (pss_cons (ps_set (i := 3) nd rfl (.inl rfl) (pe_join pe_str (pe_lc (own := [("_law_deed_here", 10)]) (g := gName 10) (tt := tYes) rfl nd (pi_list (pv 2)) (blkOk_by (own := [("_law_deed_here", 10)]) (N := Su.N_law) (sc := defScope s_law) (by decide +kernel)) (fun _ _ _ _ _ => (pg_name (i := 10) nd rfl (.inl rfl))) (fun _ _ _ _ _ => pts_nil) (fun _ _ _ _ _ => (pe_op op_add_str (pe_call G__law_line (hr.mono (by omega)) (by rfl) T.m__law_line T.F__law_line.kp T.b__law_line .nil pass0 (pa_cons (pv 10) pa_nil)) pe_str)))))
      (pss_cons (ps_set (i := 4) nd rfl (.inl rfl) (pe_callTy call_list_of (by rfl) T.m_list (by decide +kernel) (pa_cons (pv 2) pa_nil)))
      (pss_cons (ps_if (PW.pt (pw_or (pt_not (pt_val (pe_call G__law_same (hr.mono (by omega)) (by rfl) T.m__law_same T.F__law_same.kp T.b__law_same .nil pass0 (pa_cons (pe_call G_page_text (hr.mono (by omega)) (by rfl) T.m_page_text T.F_page_text.kp T.b_page_text .nil pass0 (pa_cons (pv 4) pa_nil)) (pa_cons (pv 3) pa_nil))))) (pw_or (pt_cmpR (op_neD hr.units) (pv 4) (pv 2) (nomark _)) (pw_or1 (pt_not (pt_val (pe_call G__law_same (hr.mono (by omega)) (by rfl) T.m__law_same T.F__law_same.kp T.b__law_same .nil pass0 (pa_cons (pe_call G_page_deeds (hr.mono (by omega)) (by rfl) T.m_page_deeds T.F_page_deeds.kp T.b_page_deeds .nil passL (pa_cons (pv 3) pa_nil)) (pa_cons (pv 2) pa_nil)))))))))
        (pss_one (ps_ret pe_bl))
        pss_nil)
      (pss_cons (ps_set (i := 3) nd rfl (.inl rfl) (pe_call G__law_spoilt (hr.mono (by omega)) (by rfl) T.m__law_spoilt T.F__law_spoilt.kp T.b__law_spoilt .nil pass0 (pa_cons (pv 3) (pa_cons (pe_op op_mod (pe_ix ix_list (pv 1) pe_int (fun _ _ => rfl)) pe_int) (pa_cons (pe_ix ix_list (pv 1) pe_int (fun _ _ => rfl)) pa_nil)))))
      (pss_cons (ps_set (i := 5) nd rfl (.inl rfl) (pe_call G__law_all_read (hr.mono (by omega)) (by rfl) T.m__law_all_read T.F__law_all_read.kp T.b__law_all_read .nil pass0 (pa_cons (pv 3) pa_nil)))
      (pss_cons (ps_set (i := 6) nd rfl (.inl rfl) (pe_lst pa_nil))
      (pss_cons (ps_set (i := 7) nd rfl (.inl rfl) pe_non)
      (pss_cut (ps_try_as (i := 8) (c := .ref T.f_SusuError) rfl rfl nd rfl rfl ⟨rfl, by decide, .inl T.m_SusuError⟩ takes0
        (fun W pn xe tk _ => (pss_one (ps_set (i := 7) nd rfl (.inl rfl) (pe_callS G_page_deeds (hr.mono (by omega)) (by rfl) T.m_page_deeds T.F_page_deeds.kp T.b_page_deeds (fun σ => passAt tk σ) (pa_cons (pv 3) pa_nil)))))
        (fun a oe cls dd pn hz hf => (pss_ex (Pi := fun D : Addr => cls = .ref D ∧ dd = none ∧ ExcC K D) (t := fun D => tAsg (tLst (tCons (tCB (rIsE K D a) (tCons (tVar 8) (tCons (tC (.ref T.f_NoDeed)) tNil))) (tCons (tCB (rIsE K D a) (tCons (tVar 8) (tCons (tC (.ty "ValueError")) tNil))) (tCons (tCB (rIsE K D a) (tCons (tVar 8) (tCons (tC (.ref T.f_BadName)) tNil))) tNil)))) (gName 6)) (fun D hP => by obtain ⟨rfl, rfl, C⟩ := hP; exact pss_one (ps_set (i := 6) nd rfl (.inl rfl) (pe_lst (pa_cons (pe_callB (call_isE C hz hf) (by rfl) T.m_isinstance (by decide +kernel) (pa_cons (pv 8) (pa_cons (pe_glob (v := .ref T.f_NoDeed) (by rfl) T.m_NoDeed rfl) pa_nil))) (pa_cons (pe_callB (call_isE C hz hf) (by rfl) T.m_isinstance (by decide +kernel) (pa_cons (pv 8) (pa_cons (pe_bltn (v := .ty "ValueError") (by rfl) T.m_ValueError (by decide +kernel) rfl) pa_nil))) (pa_cons (pe_callB (call_isE C hz hf) (by rfl) T.m_isinstance (by decide +kernel) (pa_cons (pv 8) (pa_cons (pe_glob (v := .ref T.f_BadName) (by rfl) T.m_BadName rfl) pa_nil))) pa_nil)))))))))
      (pss_cons (ps_if (pt_cmpR op_isN (pv 5) pe_non (nomark _))
        (pss_one (ps_ret (pe_cmpR (op_eqD hr.units) (pv 6) (pe_lst (pa_cons pe_bl (pa_cons pe_bl (pa_cons pe_bl pa_nil)))) (nomark _))))
        pss_nil)
      (pss_one (ps_ret (pe_and (pe_cmpR (op_eqD hr.units) (pv 6) (pe_lst pa_nil) (nomark _)) (pe_one (pe_call G__law_same (hr.mono (by omega)) (by rfl) T.m__law_same T.F__law_same.kp T.b__law_same .nil pass0 (pa_cons (pv 7) (pa_cons (pv 5) pa_nil)))))))))))))))))), ?_⟩
    refine q_callN (by walk_at "ea") (spN_draws (m := 152) hS hlen (by decide)) ?_
    rintro _ p H1 ⟨rows, hR, rfl⟩ hp e1 h1
    have hl := hR.1
    have hl2 := hR.2.1
    have hs := sq_of (K := K) h1
    have x0 : atI (rows.map V.int) 0 = some (.int (rows.getD (Int.toNat 0) 0)) := at_rows (by decide) (by show (0 : Int) < _; omega)
    have x1 : atI (rows.map V.int) 1 = some (.int (rows.getD (Int.toNat 1) 0)) := at_rows (by decide) (by show (1 : Int) < _; omega)
    have x2 : atI (rows.map V.int) 2 = some (.int (rows.getD (Int.toNat 2) 0)) := at_rows (by decide) (by show (2 : Int) < _; omega)
    obtain ⟨n, hn⟩ : ∃ n : Nat, rows.getD (Int.toNat 0) 0 % 10 = (n : Int) := ⟨(rows.getD (Int.toNat 0) 0 % 10).toNat, by omega⟩
    have hn2 : n ≤ 9 := by omega
    refine q_asgDs (K := K) (eds_R1 (K := K) (n := n) (fun i d => ∃ dd : Deed, d = deedD dd ∧ DeedOk dd ∧ seatsOf dd ≤ 20) (ea_cons (ev_is (ev_op (ev_op (ev_var rfl) ev_c (rv_ixL hs x0)) ev_c (rv_mod (by decide))) (by rw [hn])) ea_nil) (by omega) fun i Hb eb hi => ?_) fun p2 ts ds H2 hp2 e2 h2 hd2 hl2' hnl hRR => ?_
    · refine ⟨_, tg_name, rfl, fun Hc ec Qc qc => ?_⟩
      have hsc := ex_l (eb.trans ec) hs
      refine (el_sl (ev_var rfl) (eo_some (by walk_at "ev")) eo_none hsc) Hc (Ex.refl _) _ fun p3 H3 hp3 e3 h3 => ?_
      rw [show (3 + 9 * (i : Int)) = ((3 + 9 * i : Nat) : Int) from by omega, cut_from, ← List.map_drop] at h3
      have hR3 : Rows (152 - (3 + 9 * i)) (rows.drop (3 + 9 * i)) := ⟨by rw [List.length_drop]; omega, by rw [List.length_drop]; omega, fun x hx => hR.2.2 x (List.mem_of_mem_drop hx)⟩
      exact ⟨p3, rows.drop (3 + 9 * i), _, rfl, sq_of h3, hR3, by omega, fun H4 v d e4 hd hok hse => qc v H4 _ (e3.trans e4) hd (nol_deedD hok) ⟨d, rfl, hok, hse⟩⟩
    obtain ⟨dl, rfl, hdl⟩ := deeds_of (Pr := fun d => DeedOk d ∧ seatsOf d ≤ 20) (ds := ds) fun x hx => by
      obtain ⟨i, hi⟩ := List.mem_iff_getElem?.mp hx
      exact hRR i x hi
    have hdn : dl.length ≤ 9 := by rw [List.length_map] at hl2'; omega
    have hsm : ∀ d ∈ dl, (lineOf d).length ≤ 840 ∧ blanks (lineOf d) ≤ 64 := fun d hd => line_small (hdl d hd).1 (hdl d hd).2
    have hdk : ∀ d ∈ dl, DeedOk d := fun d hd => (hdl d hd).1
    have hdo : ∀ d ∈ dl, DeedOk d ∧ (lineOf d).length ≤ 840 := fun d hd => ⟨hdk d hd, (hsm d hd).1⟩
    have pg1 := pageR_of hdk
    obtain ⟨pg2, pg3⟩ := pageOf_len hsm
    have pg4 := pageOf_lfs hdk
    have hpl : PlD 4 (.list (dl.map deedD)) := .list (by rw [List.length_map]; omega) fun d hd => by
      obtain ⟨d0, hd0, rfl⟩ := List.mem_map.mp hd
      exact pl_deedR (deed_reads (hdk d0 hd0)) (by have := words_small (hdk d0 hd0) (hdl d0 hd0).2; omega)
    refine q_asg (v := .str (pageOf dl)) (by rw [pageOf_join0]; exact ev_join ev_c (el_lines (ev_var rfl) (sq_of h2) hd2 hdo hdn (fun _ => rfl) (fun _ => rfl)) (page_fits hdo hdn)) fun H3 e3 => ?_
    have h3 := e3 _ _ h2
    have hd3 := dpa_ex e3 hd2
    refine q_asgL (el_list (ev_var rfl) (sq_of h3)) fun pl H4 hpl4 e4 h4 => ?_
    have hd4 := dpa_ex e4 hd3
    have h34 := e4 _ _ h3
    refine q_when (b := false) (et_or (a := false) (et_not (a := true) (et_sameD (n := 4) (PlD.str _) (evd_str (ev_call (ea_cons (ev_var rfl) ea_nil) fun H5 e5 Q5 q5 _ => ⟨pl, ts, dl, rfl, sq_of (e5 _ _ h4), dpa_ex e5 hd4, hdo, hdn, q5⟩)) (evd_str (ev_var rfl)))) fun _ => et_or (a := false) (et_test (ev_op (ev_var rfl) (ev_var rfl) (rv_neD (d := .list (dl.map deedD)) (.lst (sq_of h4) hd4) (.lst (sq_of h34) hd4) (shaped_deeds hdk)))) fun _ => et_not (a := true) (et_sameD hpl (fun H5 e5 Q5 q5 => (ea_cons (ev_var rfl) ea_nil : EvA (tCons (tVar 3) tNil) _ H4 [.str (pageOf dl)]) H5 e5 _ fun H6 e6 => ⟨pageOf dl, rfl, by omega, fun ds' hds' H7 p7 ts7 e7 h7 hd7 => ?_, fun hn => ?_⟩) (evd_v (ev_var rfl) (.lst (sq_of h34) hd4)))) (fun h => by cases h) fun _ H5 e5 => ?_
    · rw [pg1] at hds'
      obtain rfl := Option.some.inj hds'
      exact q5 _ H7 (e6.trans e7) (.lst (sq_of h7) hd7)
    · rw [pg1] at hn
      cases hn
    have e15 : Ex H1 H5 := (e2.trans e3).trans (e4.trans e5)
    have hs5 := ex_l e15 hs
    have y2 := hR.get (Int.toNat 2)
    refine q_callQ (vs := [.str (pageOf dl), .int (rows.getD (Int.toNat 1) 0 % 7), .int (rows.getD (Int.toNat 2) 0)]) (ea_cons (ev_var rfl) (ea_cons (ev_op (ev_op (ev_var rfl) ev_c (rv_ixL hs5 x1)) ev_c (rv_mod (by decide))) (ea_cons (ev_op (ev_var rfl) ev_c (rv_ixL hs5 x2)) ea_nil))) fun H6 e6 => ⟨pageOf dl, _, _, rfl, by omega, y2, fun H7 z e7 hz hb hf => ?_⟩
    have hz2 : z.length ≤ 8000 := by omega
    have hzb : blanks z ≤ 999 := by omega
    have hzf : lfs z ≤ 1000 := by omega
    clear hz hb hf
    cases hpr : pageR z with
    | none =>
      refine q_callQ (ea_cons (ev_var rfl) ea_nil) fun H8 e8 => ⟨z, rfl, by omega, fun d hd => (by rw [hpr] at hd; cases hd), fun _ H9 e9 => ?_⟩
      refine q_asgL (el_lst ea_nil (by decide)) fun mk H10 hmk e10 h10 => ?_
      refine q_asg ev_c fun H11 e11 => ?_
      refine q_cut (M := fun σ' H' => ∃ mk : Addr, σ' = [some (.ref a), some (.ref p), some (.ref p2), some (.str z), some (.ref pl), some .non, some (.ref mk), some .non, none, none, none] ∧ H' mk = some (.lst ([true, true, false].map V.bl))) ?_ ?_
      · refine q_tryw (ea_cons (ev_var rfl) ea_nil) fun H12 e12 => ⟨z, rfl, by omega, fun d hd => (by rw [hpr] at hd; cases hd), fun _ H13 e13 => ?_⟩
        refine ⟨true, PySem.W.exm_ref T.sb_SusuError T.hd_SusuError T.ty_SusuError T.su_NoDeed_SusuError, fun _ ae hae => ⟨T.f_NoDeed, ⟨rfl, rfl, T.e_NoDeed⟩, ?_⟩, fun z => by cases z⟩
        exact s_asgL (xs := [true, true, false].map V.bl) (el_lst (ea_cons (ev_cb (by walk_at "ea") (rc_isE T.ki_NoDeed_NoDeed)) (ea_cons (ev_cb (by walk_at "ea") (rc_isEt T.ki_NoDeed_ValueError)) (ea_cons (ev_cb (by walk_at "ea") (rc_isE T.ki_NoDeed_BadName)) ea_nil))) (by show 3 ≤ 100000; decide)) fun m2 H14 hm2 e14 h14 => ⟨m2, rfl, h14⟩
      rintro _ H12 ⟨mk', rfl, hm⟩
      refine q_when (b := true) (et_is (et_test (ev_op (ev_var rfl) ev_c rv_isN)) rfl) (fun _ H13 e13 => ?_) (fun h => by cases h)
      exact s_ret (v := .bl true) (ev_opL (by walk_at "ev") (el_lst (vs := [true, true, false].map V.bl) (by walk_at "ea") (by show 3 ≤ 100000; decide)) fun p3 H15 h15 e15 => rv_eqD (d := boolD [true, true, false]) (dp_bools (sq_of (ex_g (e13.trans e15) hm))) (dp_bools (sq_of h15)) (by decide +kernel)) fun H15 e15 => q H15
    | some ds =>
      have hplz := pl_page hpr hzf hzb
      refine q_callQ (ea_cons (ev_var rfl) ea_nil) fun H8 e8 => ⟨z, rfl, by omega, fun ds' hds' H9 p9 ts9 e9 h9 hd9 => ?_, fun hn => (by rw [hpr] at hn; cases hn)⟩
      obtain rfl := Option.some.inj (hpr.symm.trans hds')
      refine q_asgL (el_lst ea_nil (by decide)) fun mk H10 hmk e10 h10 => ?_
      refine q_asg ev_c fun H11 e11 => ?_
      have h911 := (e10.trans e11) _ _ h9
      have hd11 := dpa_ex (e10.trans e11) hd9
      have h1011 := e11 _ _ h10
      refine q_cut (M := fun σ' H' => ∃ v2 : V, σ' = [some (.ref a), some (.ref p), some (.ref p2), some (.str z), some (.ref pl), some (.ref p9), some (.ref mk), some v2, none, none, none] ∧ H' mk = some (.lst []) ∧ Dp K H' (.ref p9) (.list ds) ∧ Dp K H' v2 (.list ds)) ?_ ?_
      · exact q_tryw (ea_cons (ev_var rfl) ea_nil) fun H12 e12 => ⟨z, rfl, by omega, fun ds' hds' H13 p13 ts13 e13 h13 hd13 => by
          obtain rfl := Option.some.inj (hpr.symm.trans hds')
          exact ⟨.ref p13, rfl, (e12.trans e13) _ _ h1011, .lst (sq_of ((e12.trans e13) _ _ h911)) (dpa_ex (e12.trans e13) hd11), .lst (sq_of h13) hd13⟩, fun hn => (by rw [hpr] at hn; cases hn)⟩
      rintro _ H12 ⟨v2, rfl, hm, hd1, hd2⟩
      refine q_when (b := false) (et_is (et_test (ev_op (ev_var rfl) ev_c rv_isN)) (decide_eq_false fun z => nomatch z)) (fun h => by cases h) fun _ H13 e13 => ?_
      exact s_ret (v := .bl (true && true)) (ev_andV (ev_opL (by walk_at "ev") (el_lst ea_nil (by decide)) fun p3 H15 h15 e15 => rv_eqDD (d := boolD []) (e := boolD []) (dp_bools (sq_of (ex_g (e13.trans e15) hm))) (dp_bools (sq_of h15)) (by decide +kernel) (by decide +kernel) (by decide +kernel)) fun _ => ev_sameD (n := 4) hplz (evd_v (ev_var rfl) (dp_ex e13 hd2)) (evd_v (ev_var rfl) (dp_ex e13 hd1))) fun H15 e15 => q H15
end

end Su
namespace Su
set_option maxHeartbeats 8000000 in
def top_mk {K : PySem.W.Frag} {h : Heap} {mg : Str → Option Value} (X : K.In h) (G : h.Ns mainGlobals mg)
    {od0 an0 : Option Addr} {sl0 : Array (Option Value)} {oc0 kV0 dc0 pm0 cd0 ct0 : Value} {f0 : Addr}
    (a0 : PySem.W.nsIn K mainGlobals "is_name" = some (some (.ref f0))) (l0 : K.lookup f0 = some ⟨oc0, od0, .func (PySem.W.fnOf "is_name" "is_name" (defArgs s_is_name) (defBody s_is_name) (defScope s_is_name) .none kV0 dc0 pm0 an0 cd0 ct0), sl0⟩) (c0 : PySem.W.codeIn K cd0 "is_name" = true) (k0 : PySem.W.keepIn K (.ref f0) = true)
    {od1 an1 : Option Addr} {sl1 : Array (Option Value)} {oc1 kV1 dc1 pm1 cd1 ct1 : Value} {f1 : Addr}
    (a1 : PySem.W.nsIn K mainGlobals "deed_text" = some (some (.ref f1))) (l1 : K.lookup f1 = some ⟨oc1, od1, .func (PySem.W.fnOf "deed_text" "deed_text" (defArgs s_deed_text) (defBody s_deed_text) (defScope s_deed_text) .none kV1 dc1 pm1 an1 cd1 ct1), sl1⟩) (c1 : PySem.W.codeIn K cd1 "deed_text" = true) (k1 : PySem.W.keepIn K (.ref f1) = true)
    {od2 an2 : Option Addr} {sl2 : Array (Option Value)} {oc2 kV2 dc2 pm2 cd2 ct2 : Value} {f2 : Addr}
    (a2 : PySem.W.nsIn K mainGlobals "deed_of" = some (some (.ref f2))) (l2 : K.lookup f2 = some ⟨oc2, od2, .func (PySem.W.fnOf "deed_of" "deed_of" (defArgs s_deed_of) (defBody s_deed_of) (defScope s_deed_of) .none kV2 dc2 pm2 an2 cd2 ct2), sl2⟩) (c2 : PySem.W.codeIn K cd2 "deed_of" = true) (k2 : PySem.W.keepIn K (.ref f2) = true)
    {od3 an3 : Option Addr} {sl3 : Array (Option Value)} {oc3 kV3 dc3 pm3 cd3 ct3 : Value} {f3 : Addr}
    (a3 : PySem.W.nsIn K mainGlobals "page_text" = some (some (.ref f3))) (l3 : K.lookup f3 = some ⟨oc3, od3, .func (PySem.W.fnOf "page_text" "page_text" (defArgs s_page_text) (defBody s_page_text) (defScope s_page_text) .none kV3 dc3 pm3 an3 cd3 ct3), sl3⟩) (c3 : PySem.W.codeIn K cd3 "page_text" = true) (k3 : PySem.W.keepIn K (.ref f3) = true)
    {od4 an4 : Option Addr} {sl4 : Array (Option Value)} {oc4 kV4 dc4 pm4 cd4 ct4 : Value} {f4 : Addr}
    (a4 : PySem.W.nsIn K mainGlobals "page_deeds" = some (some (.ref f4))) (l4 : K.lookup f4 = some ⟨oc4, od4, .func (PySem.W.fnOf "page_deeds" "page_deeds" (defArgs s_page_deeds) (defBody s_page_deeds) (defScope s_page_deeds) .none kV4 dc4 pm4 an4 cd4 ct4), sl4⟩) (c4 : PySem.W.codeIn K cd4 "page_deeds" = true) (k4 : PySem.W.keepIn K (.ref f4) = true)
    {od5 an5 : Option Addr} {sl5 : Array (Option Value)} {oc5 kV5 dc5 pm5 cd5 ct5 : Value} {f5 : Addr}
    (a5 : PySem.W.nsIn K mainGlobals "joined" = some (some (.ref f5))) (l5 : K.lookup f5 = some ⟨oc5, od5, .func (PySem.W.fnOf "joined" "joined" (defArgs s_joined) (defBody s_joined) (defScope s_joined) .none kV5 dc5 pm5 an5 cd5 ct5), sl5⟩) (c5 : PySem.W.codeIn K cd5 "joined" = true) (k5 : PySem.W.keepIn K (.ref f5) = true)
    {od6 an6 : Option Addr} {sl6 : Array (Option Value)} {oc6 kV6 dc6 pm6 cd6 ct6 : Value} {f6 : Addr}
    (a6 : PySem.W.nsIn K mainGlobals "found_of" = some (some (.ref f6))) (l6 : K.lookup f6 = some ⟨oc6, od6, .func (PySem.W.fnOf "found_of" "found_of" (defArgs s_found_of) (defBody s_found_of) (defScope s_found_of) .none kV6 dc6 pm6 an6 cd6 ct6), sl6⟩) (c6 : PySem.W.codeIn K cd6 "found_of" = true) (k6 : PySem.W.keepIn K (.ref f6) = true)
    {od7 an7 : Option Addr} {sl7 : Array (Option Value)} {oc7 kV7 dc7 pm7 cd7 ct7 : Value} {f7 : Addr}
    (a7 : PySem.W.nsIn K mainGlobals "read_words" = some (some (.ref f7))) (l7 : K.lookup f7 = some ⟨oc7, od7, .func (PySem.W.fnOf "read_words" "read_words" (defArgs s_read_words) (defBody s_read_words) (defScope s_read_words) .none kV7 dc7 pm7 an7 cd7 ct7), sl7⟩) (c7 : PySem.W.codeIn K cd7 "read_words" = true) (k7 : PySem.W.keepIn K (.ref f7) = true)
    {od8 an8 : Option Addr} {sl8 : Array (Option Value)} {oc8 kV8 dc8 pm8 cd8 ct8 : Value} {f8 : Addr}
    (a8 : PySem.W.nsIn K mainGlobals "read_name" = some (some (.ref f8))) (l8 : K.lookup f8 = some ⟨oc8, od8, .func (PySem.W.fnOf "read_name" "read_name" (defArgs s_read_name) (defBody s_read_name) (defScope s_read_name) .none kV8 dc8 pm8 an8 cd8 ct8), sl8⟩) (c8 : PySem.W.codeIn K cd8 "read_name" = true) (k8 : PySem.W.keepIn K (.ref f8) = true)
    {od9 an9 : Option Addr} {sl9 : Array (Option Value)} {oc9 kV9 dc9 pm9 cd9 ct9 : Value} {f9 : Addr}
    (a9 : PySem.W.nsIn K mainGlobals "read_number" = some (some (.ref f9))) (l9 : K.lookup f9 = some ⟨oc9, od9, .func (PySem.W.fnOf "read_number" "read_number" (defArgs s_read_number) (defBody s_read_number) (defScope s_read_number) .none kV9 dc9 pm9 an9 cd9 ct9), sl9⟩) (c9 : PySem.W.codeIn K cd9 "read_number" = true) (k9 : PySem.W.keepIn K (.ref f9) = true)
    {od10 an10 : Option Addr} {sl10 : Array (Option Value)} {oc10 kV10 dc10 pm10 cd10 ct10 : Value} {f10 : Addr}
    (a10 : PySem.W.nsIn K mainGlobals "_law_draws" = some (some (.ref f10))) (l10 : K.lookup f10 = some ⟨oc10, od10, .func (PySem.W.fnOf "_law_draws" "_law_draws" (defArgs s__law_draws) (defBody s__law_draws) (defScope s__law_draws) .none kV10 dc10 pm10 an10 cd10 ct10), sl10⟩) (c10 : PySem.W.codeIn K cd10 "_law_draws" = true) (k10 : PySem.W.keepIn K (.ref f10) = true)
    {od11 an11 : Option Addr} {sl11 : Array (Option Value)} {oc11 kV11 dc11 pm11 cd11 ct11 : Value} {f11 : Addr}
    (a11 : PySem.W.nsIn K mainGlobals "_law_same" = some (some (.ref f11))) (l11 : K.lookup f11 = some ⟨oc11, od11, .func (PySem.W.fnOf "_law_same" "_law_same" (defArgs s__law_same) (defBody s__law_same) (defScope s__law_same) .none kV11 dc11 pm11 an11 cd11 ct11), sl11⟩) (c11 : PySem.W.codeIn K cd11 "_law_same" = true) (k11 : PySem.W.keepIn K (.ref f11) = true)
    {od12 an12 : Option Addr} {sl12 : Array (Option Value)} {oc12 kV12 dc12 pm12 cd12 ct12 : Value} {f12 : Addr}
    (a12 : PySem.W.nsIn K mainGlobals "_law_names" = some (some (.ref f12))) (l12 : K.lookup f12 = some ⟨oc12, od12, .func (PySem.W.fnOf "_law_names" "_law_names" (defArgs s__law_names) (defBody s__law_names) (defScope s__law_names) .none kV12 dc12 pm12 an12 cd12 ct12), sl12⟩) (c12 : PySem.W.codeIn K cd12 "_law_names" = true) (k12 : PySem.W.keepIn K (.ref f12) = true)
    {od13 an13 : Option Addr} {sl13 : Array (Option Value)} {oc13 kV13 dc13 pm13 cd13 ct13 : Value} {f13 : Addr}
    (a13 : PySem.W.nsIn K mainGlobals "_law_number" = some (some (.ref f13))) (l13 : K.lookup f13 = some ⟨oc13, od13, .func (PySem.W.fnOf "_law_number" "_law_number" (defArgs s__law_number) (defBody s__law_number) (defScope s__law_number) .none kV13 dc13 pm13 an13 cd13 ct13), sl13⟩) (c13 : PySem.W.codeIn K cd13 "_law_number" = true) (k13 : PySem.W.keepIn K (.ref f13) = true)
    {od14 an14 : Option Addr} {sl14 : Array (Option Value)} {oc14 kV14 dc14 pm14 cd14 ct14 : Value} {f14 : Addr}
    (a14 : PySem.W.nsIn K mainGlobals "_law_deed" = some (some (.ref f14))) (l14 : K.lookup f14 = some ⟨oc14, od14, .func (PySem.W.fnOf "_law_deed" "_law_deed" (defArgs s__law_deed) (defBody s__law_deed) (defScope s__law_deed) .none kV14 dc14 pm14 an14 cd14 ct14), sl14⟩) (c14 : PySem.W.codeIn K cd14 "_law_deed" = true) (k14 : PySem.W.keepIn K (.ref f14) = true)
    {od15 an15 : Option Addr} {sl15 : Array (Option Value)} {oc15 kV15 dc15 pm15 cd15 ct15 : Value} {f15 : Addr}
    (a15 : PySem.W.nsIn K mainGlobals "_law_is_name" = some (some (.ref f15))) (l15 : K.lookup f15 = some ⟨oc15, od15, .func (PySem.W.fnOf "_law_is_name" "_law_is_name" (defArgs s__law_is_name) (defBody s__law_is_name) (defScope s__law_is_name) .none kV15 dc15 pm15 an15 cd15 ct15), sl15⟩) (c15 : PySem.W.codeIn K cd15 "_law_is_name" = true) (k15 : PySem.W.keepIn K (.ref f15) = true)
    {od16 an16 : Option Addr} {sl16 : Array (Option Value)} {oc16 kV16 dc16 pm16 cd16 ct16 : Value} {f16 : Addr}
    (a16 : PySem.W.nsIn K mainGlobals "_law_is_number" = some (some (.ref f16))) (l16 : K.lookup f16 = some ⟨oc16, od16, .func (PySem.W.fnOf "_law_is_number" "_law_is_number" (defArgs s__law_is_number) (defBody s__law_is_number) (defScope s__law_is_number) .none kV16 dc16 pm16 an16 cd16 ct16), sl16⟩) (c16 : PySem.W.codeIn K cd16 "_law_is_number" = true) (k16 : PySem.W.keepIn K (.ref f16) = true)
    {od17 an17 : Option Addr} {sl17 : Array (Option Value)} {oc17 kV17 dc17 pm17 cd17 ct17 : Value} {f17 : Addr}
    (a17 : PySem.W.nsIn K mainGlobals "_law_shape" = some (some (.ref f17))) (l17 : K.lookup f17 = some ⟨oc17, od17, .func (PySem.W.fnOf "_law_shape" "_law_shape" (defArgs s__law_shape) (defBody s__law_shape) (defScope s__law_shape) .none kV17 dc17 pm17 an17 cd17 ct17), sl17⟩) (c17 : PySem.W.codeIn K cd17 "_law_shape" = true) (k17 : PySem.W.keepIn K (.ref f17) = true)
    {od18 an18 : Option Addr} {sl18 : Array (Option Value)} {oc18 kV18 dc18 pm18 cd18 ct18 : Value} {f18 : Addr}
    (a18 : PySem.W.nsIn K mainGlobals "_law_read" = some (some (.ref f18))) (l18 : K.lookup f18 = some ⟨oc18, od18, .func (PySem.W.fnOf "_law_read" "_law_read" (defArgs s__law_read) (defBody s__law_read) (defScope s__law_read) .none kV18 dc18 pm18 an18 cd18 ct18), sl18⟩) (c18 : PySem.W.codeIn K cd18 "_law_read" = true) (k18 : PySem.W.keepIn K (.ref f18) = true)
    {od19 an19 : Option Addr} {sl19 : Array (Option Value)} {oc19 kV19 dc19 pm19 cd19 ct19 : Value} {f19 : Addr}
    (a19 : PySem.W.nsIn K mainGlobals "_law_line" = some (some (.ref f19))) (l19 : K.lookup f19 = some ⟨oc19, od19, .func (PySem.W.fnOf "_law_line" "_law_line" (defArgs s__law_line) (defBody s__law_line) (defScope s__law_line) .none kV19 dc19 pm19 an19 cd19 ct19), sl19⟩) (c19 : PySem.W.codeIn K cd19 "_law_line" = true) (k19 : PySem.W.keepIn K (.ref f19) = true)
    {od20 an20 : Option Addr} {sl20 : Array (Option Value)} {oc20 kV20 dc20 pm20 cd20 ct20 : Value} {f20 : Addr}
    (a20 : PySem.W.nsIn K mainGlobals "_law_spoilt" = some (some (.ref f20))) (l20 : K.lookup f20 = some ⟨oc20, od20, .func (PySem.W.fnOf "_law_spoilt" "_law_spoilt" (defArgs s__law_spoilt) (defBody s__law_spoilt) (defScope s__law_spoilt) .none kV20 dc20 pm20 an20 cd20 ct20), sl20⟩) (c20 : PySem.W.codeIn K cd20 "_law_spoilt" = true) (k20 : PySem.W.keepIn K (.ref f20) = true)
    {od21 an21 : Option Addr} {sl21 : Array (Option Value)} {oc21 kV21 dc21 pm21 cd21 ct21 : Value} {f21 : Addr}
    (a21 : PySem.W.nsIn K mainGlobals "_law_all_read" = some (some (.ref f21))) (l21 : K.lookup f21 = some ⟨oc21, od21, .func (PySem.W.fnOf "_law_all_read" "_law_all_read" (defArgs s__law_all_read) (defBody s__law_all_read) (defScope s__law_all_read) .none kV21 dc21 pm21 an21 cd21 ct21), sl21⟩) (c21 : PySem.W.codeIn K cd21 "_law_all_read" = true) (k21 : PySem.W.keepIn K (.ref f21) = true)
    {od22 an22 : Option Addr} {sl22 : Array (Option Value)} {oc22 kV22 dc22 pm22 cd22 ct22 : Value} {f22 : Addr}
    (a22 : PySem.W.nsIn K mainGlobals "law" = some (some (.ref f22))) (l22 : K.lookup f22 = some ⟨oc22, od22, .func (PySem.W.fnOf "law" "law" (defArgs s_law) (defBody s_law) (defScope s_law) .none kV22 dc22 pm22 an22 cd22 ct22), sl22⟩) (c22 : PySem.W.codeIn K cd22 "law" = true) (k22 : PySem.W.keepIn K (.ref f22) = true)
    (z0 : PySem.W.nsIn K mainGlobals "ValueError" = some none)
    (z1 : PySem.W.nsIn K mainGlobals "abs" = some none)
    (z2 : PySem.W.nsIn K mainGlobals "all" = some none)
    (z3 : PySem.W.nsIn K mainGlobals "bool" = some none)
    (z4 : PySem.W.nsIn K mainGlobals "int" = some none)
    (z5 : PySem.W.nsIn K mainGlobals "isinstance" = some none)
    (z6 : PySem.W.nsIn K mainGlobals "len" = some none)
    (z7 : PySem.W.nsIn K mainGlobals "list" = some none)
    (z8 : PySem.W.nsIn K mainGlobals "range" = some none)
    (z9 : PySem.W.nsIn K mainGlobals "str" = some none)
    (z10 : PySem.W.nsIn K mainGlobals "tuple" = some none)
    (z11 : PySem.W.nsIn K mainGlobals "zip" = some none)
    {tk0 : Tok} (n0 : PySem.W.nsIn K mainGlobals "LETTERS" = some (some (.str "abcdefghijklmnopqrstuvwxyz" tk0)))
    {tk1 : Tok} (n1 : PySem.W.nsIn K mainGlobals "LONGEST_NAME" = some (some (.int 12 tk1)))
    {tk2 : Tok} (n2 : PySem.W.nsIn K mainGlobals "FIGURES" = some (some (.str "0123456789" tk2)))
    {tk3 : Tok} (n3 : PySem.W.nsIn K mainGlobals "MOST_FIGURES" = some (some (.int 12 tk3)))
    {tk4 : Tok} (n4 : PySem.W.nsIn K mainGlobals "FOUND" = some (some (.str "found" tk4)))
    {tk5 : Tok} (n5 : PySem.W.nsIn K mainGlobals "PLAIN" = some (some (.str "plain" tk5)))
    {tk6 : Tok} (n6 : PySem.W.nsIn K mainGlobals "BIDS" = some (some (.str "bids" tk6)))
    {tk7 : Tok} (n7 : PySem.W.nsIn K mainGlobals "SEAT_WORDS" = some (some (.int 3 tk7)))
    {fc0 : Addr}
    (x1 : PySem.W.nsIn K mainGlobals "SusuError" = some (some (.ref fc0)))
    {fc2 : Addr}
    (x3 : PySem.W.nsIn K mainGlobals "BadName" = some (some (.ref fc2)))
    {fc4 : Addr}
    (x5 : PySem.W.nsIn K mainGlobals "NoDeed" = some (some (.ref fc4)))
    (x6 : PySem.W.excIn K fc4 vErr "ValueError.__new__" = true)
    (x7 : PySem.W.keepIn K (.ref fc4) = true)
    (x8_0 : PySem.W.findIn K (.ref fc4) "__getattribute__" = some (some (.builtin "BaseException.__getattribute__")))
    (x8_1 : PySem.W.findIn K (.ref fc4) "__getattr__" = some none)
    (x8_2 : PySem.W.subIn K (.ref fc4) (.type "BaseException") = some true)
    (x8_3 : PySem.W.hasDictIn K fc4 = true)
    (x8_4 : PySem.W.findIn K (.ref fc4) "__class__" = some (some (.builtin "object.__class__")))
    (x8_5 : PySem.W.specialIn K (.builtin "object.__class__") "__get__" = some (some (.builtin "getset_descriptor.__get__")))
    (x8_6 : PySem.W.takesIn K (.builtin "object.__class__") = some true)
    (x8_7 : PySem.W.mroIn K fc4 (.type "object") = some true)
    (x9 : PySem.W.subIn K (.ref fc4) (.ref fc0) = some true)
    (x10 : PySem.W.kitOne K (.ref fc4) (.ref fc4) = some true)
    (x11 : PySem.W.kitOne K (.ref fc4) (.type "ValueError") = some true)
    (x12 : PySem.W.kitOne K (.ref fc4) (.ref fc2) = some false)
    (x13 : PySem.W.subIn K (.ref fc4) (.type "BaseException") = some true)
    (x14 : PySem.W.typeIn K (.ref fc4) = some (.type "type"))
    (x15 : PySem.W.subIn K (.ref fc0) (.type "BaseException") = some true)
    (x16 : PySem.W.typeIn K (.ref fc0) = some (.type "type"))
    (x17 : PySem.W.hasDictIn K fc0 = true)
    {fq0 : Addr} (mq0 : PySem.W.nsIn K mainGlobals "FORMS" = some (some (.ref fq0))) : Top K mg where
      d_is_name := ⟨f0, _, fun_mk (st := s_is_name) l0 c0 k0, (fun_mk (st := s_is_name) l0 c0 k0).binds (ps := ["text"]) (fun _ _ _ _ _ _ us hl => match us, hl with | [_], _ => rfl)⟩
      m_is_name := PySem.W.mg_of X G a0
      d_deed_text := ⟨f1, _, fun_mk (st := s_deed_text) l1 c1 k1, (fun_mk (st := s_deed_text) l1 c1 k1).binds (ps := ["deed"]) (fun _ _ _ _ _ _ us hl => match us, hl with | [_], _ => rfl)⟩
      m_deed_text := PySem.W.mg_of X G a1
      d_deed_of := ⟨f2, _, fun_mk (st := s_deed_of) l2 c2 k2, (fun_mk (st := s_deed_of) l2 c2 k2).binds (ps := ["text"]) (fun _ _ _ _ _ _ us hl => match us, hl with | [_], _ => rfl)⟩
      m_deed_of := PySem.W.mg_of X G a2
      d_page_text := ⟨f3, _, fun_mk (st := s_page_text) l3 c3 k3, (fun_mk (st := s_page_text) l3 c3 k3).binds (ps := ["deeds"]) (fun _ _ _ _ _ _ us hl => match us, hl with | [_], _ => rfl)⟩
      m_page_text := PySem.W.mg_of X G a3
      d_page_deeds := ⟨f4, _, fun_mk (st := s_page_deeds) l4 c4 k4, (fun_mk (st := s_page_deeds) l4 c4 k4).binds (ps := ["text"]) (fun _ _ _ _ _ _ us hl => match us, hl with | [_], _ => rfl)⟩
      m_page_deeds := PySem.W.mg_of X G a4
      d_joined := ⟨f5, _, fun_mk (st := s_joined) l5 c5 k5, (fun_mk (st := s_joined) l5 c5 k5).binds (ps := ["words"]) (fun _ _ _ _ _ _ us hl => match us, hl with | [_], _ => rfl)⟩
      m_joined := PySem.W.mg_of X G a5
      d_found_of := ⟨f6, _, fun_mk (st := s_found_of) l6 c6 k6, (fun_mk (st := s_found_of) l6 c6 k6).binds (ps := ["words"]) (fun _ _ _ _ _ _ us hl => match us, hl with | [_], _ => rfl)⟩
      m_found_of := PySem.W.mg_of X G a6
      d_read_words := ⟨f7, _, fun_mk (st := s_read_words) l7 c7 k7, (fun_mk (st := s_read_words) l7 c7 k7).binds (ps := ["words", "form"]) (fun _ _ _ _ _ _ us hl => match us, hl with | [_, _], _ => rfl)⟩
      m_read_words := PySem.W.mg_of X G a7
      d_read_name := ⟨f8, _, fun_mk (st := s_read_name) l8 c8 k8, (fun_mk (st := s_read_name) l8 c8 k8).binds (ps := ["word"]) (fun _ _ _ _ _ _ us hl => match us, hl with | [_], _ => rfl)⟩
      m_read_name := PySem.W.mg_of X G a8
      d_read_number := ⟨f9, _, fun_mk (st := s_read_number) l9 c9 k9, (fun_mk (st := s_read_number) l9 c9 k9).binds (ps := ["word"]) (fun _ _ _ _ _ _ us hl => match us, hl with | [_], _ => rfl)⟩
      m_read_number := PySem.W.mg_of X G a9
      d__law_draws := ⟨f10, _, fun_mk (st := s__law_draws) l10 c10 k10, (fun_mk (st := s__law_draws) l10 c10 k10).binds (ps := ["_law_script", "_law_many"]) (fun _ _ _ _ _ _ us hl => match us, hl with | [_, _], _ => rfl)⟩
      m__law_draws := PySem.W.mg_of X G a10
      d__law_same := ⟨f11, _, fun_mk (st := s__law_same) l11 c11 k11, (fun_mk (st := s__law_same) l11 c11 k11).binds (ps := ["_law_told", "_law_due"]) (fun _ _ _ _ _ _ us hl => match us, hl with | [_, _], _ => rfl)⟩
      m__law_same := PySem.W.mg_of X G a11
      d__law_names := ⟨f12, _, fun_mk (st := s__law_names) l12 c12 k12, (fun_mk (st := s__law_names) l12 c12 k12).binds (ps := ["_law_some", "_law_many"]) (fun _ _ _ _ _ _ us hl => match us, hl with | [_, _], _ => rfl)⟩
      m__law_names := PySem.W.mg_of X G a12
      d__law_number := ⟨f13, _, fun_mk (st := s__law_number) l13 c13 k13, (fun_mk (st := s__law_number) l13 c13 k13).binds (ps := ["_law_raw"]) (fun _ _ _ _ _ _ us hl => match us, hl with | [_], _ => rfl)⟩
      m__law_number := PySem.W.mg_of X G a13
      d__law_deed := ⟨f14, _, fun_mk (st := s__law_deed) l14 c14 k14, (fun_mk (st := s__law_deed) l14 c14 k14).binds (ps := ["_law_some"]) (fun _ _ _ _ _ _ us hl => match us, hl with | [_], _ => rfl)⟩
      m__law_deed := PySem.W.mg_of X G a14
      d__law_is_name := ⟨f15, _, fun_mk (st := s__law_is_name) l15 c15 k15, (fun_mk (st := s__law_is_name) l15 c15 k15).binds (ps := ["_law_word"]) (fun _ _ _ _ _ _ us hl => match us, hl with | [_], _ => rfl)⟩
      m__law_is_name := PySem.W.mg_of X G a15
      d__law_is_number := ⟨f16, _, fun_mk (st := s__law_is_number) l16 c16 k16, (fun_mk (st := s__law_is_number) l16 c16 k16).binds (ps := ["_law_word"]) (fun _ _ _ _ _ _ us hl => match us, hl with | [_], _ => rfl)⟩
      m__law_is_number := PySem.W.mg_of X G a16
      d__law_shape := ⟨f17, _, fun_mk (st := s__law_shape) l17 c17 k17, (fun_mk (st := s__law_shape) l17 c17 k17).binds (ps := ["_law_words"]) (fun _ _ _ _ _ _ us hl => match us, hl with | [_], _ => rfl)⟩
      m__law_shape := PySem.W.mg_of X G a17
      d__law_read := ⟨f18, _, fun_mk (st := s__law_read) l18 c18 k18, (fun_mk (st := s__law_read) l18 c18 k18).binds (ps := ["_law_line_here"]) (fun _ _ _ _ _ _ us hl => match us, hl with | [_], _ => rfl)⟩
      m__law_read := PySem.W.mg_of X G a18
      d__law_line := ⟨f19, _, fun_mk (st := s__law_line) l19 c19 k19, (fun_mk (st := s__law_line) l19 c19 k19).binds (ps := ["_law_deed_here"]) (fun _ _ _ _ _ _ us hl => match us, hl with | [_], _ => rfl)⟩
      m__law_line := PySem.W.mg_of X G a19
      d__law_spoilt := ⟨f20, _, fun_mk (st := s__law_spoilt) l20 c20 k20, (fun_mk (st := s__law_spoilt) l20 c20 k20).binds (ps := ["_law_page", "_law_way", "_law_at"]) (fun _ _ _ _ _ _ us hl => match us, hl with | [_, _, _], _ => rfl)⟩
      m__law_spoilt := PySem.W.mg_of X G a20
      d__law_all_read := ⟨f21, _, fun_mk (st := s__law_all_read) l21 c21 k21, (fun_mk (st := s__law_all_read) l21 c21 k21).binds (ps := ["_law_page"]) (fun _ _ _ _ _ _ us hl => match us, hl with | [_], _ => rfl)⟩
      m__law_all_read := PySem.W.mg_of X G a21
      d_law := ⟨f22, _, fun_mk (st := s_law) l22 c22 k22, (fun_mk (st := s_law) l22 c22 k22).binds (ps := ["_law_script"]) (fun _ _ _ _ _ _ us hl => match us, hl with | [_], _ => rfl)⟩
      m_law := PySem.W.mg_of X G a22
      m_ValueError := PySem.W.mg_none_of X G z0
      m_abs := PySem.W.mg_none_of X G z1
      m_all := PySem.W.mg_none_of X G z2
      m_bool := PySem.W.mg_none_of X G z3
      m_int := PySem.W.mg_none_of X G z4
      m_isinstance := PySem.W.mg_none_of X G z5
      m_len := PySem.W.mg_none_of X G z6
      m_list := PySem.W.mg_none_of X G z7
      m_range := PySem.W.mg_none_of X G z8
      m_str := PySem.W.mg_none_of X G z9
      m_tuple := PySem.W.mg_none_of X G z10
      m_zip := PySem.W.mg_none_of X G z11
      t_LETTERS := tk0
      m_LETTERS := PySem.W.mg_of X G n0
      t_LONGEST_NAME := tk1
      m_LONGEST_NAME := PySem.W.mg_of X G n1
      t_FIGURES := tk2
      m_FIGURES := PySem.W.mg_of X G n2
      t_MOST_FIGURES := tk3
      m_MOST_FIGURES := PySem.W.mg_of X G n3
      t_FOUND := tk4
      m_FOUND := PySem.W.mg_of X G n4
      t_PLAIN := tk5
      m_PLAIN := PySem.W.mg_of X G n5
      t_BIDS := tk6
      m_BIDS := PySem.W.mg_of X G n6
      t_SEAT_WORDS := tk7
      m_SEAT_WORDS := PySem.W.mg_of X G n7
      f_SusuError := fc0
      m_SusuError := PySem.W.mg_of X G x1
      f_BadName := fc2
      m_BadName := PySem.W.mg_of X G x3
      f_NoDeed := fc4
      m_NoDeed := PySem.W.mg_of X G x5
      x_NoDeed := x6
      kp_NoDeed := x7
      e_NoDeed := ⟨x8_0, x8_1, x8_2, x8_3, x8_4, x8_5, x8_6, x8_7⟩
      su_NoDeed_SusuError := x9
      ki_NoDeed_NoDeed := x10
      ki_NoDeed_ValueError := x11
      ki_NoDeed_BadName := x12
      sb_NoDeed := x13
      ty_NoDeed := x14
      sb_SusuError := x15
      ty_SusuError := x16
      hd_SusuError := x17
      f_FORMS := fq0
      m_FORMS := PySem.W.mg_of X G mq0
theorem all_mk {l : PySem.W.OpenLaw} {w : World} {K : PySem.W.Frag} {h : Heap} {mg : Str → Option Value} {fa : Addr} (X : K.In h) (G : h.Ns mainGlobals mg) (hfa : mg "law" = some (.ref fa))
    {od0 an0 : Option Addr} {sl0 : Array (Option Value)} {oc0 kV0 dc0 pm0 cd0 ct0 : Value} {f0 : Addr}
    (a0 : PySem.W.nsIn K mainGlobals "is_name" = some (some (.ref f0))) (l0 : K.lookup f0 = some ⟨oc0, od0, .func (PySem.W.fnOf "is_name" "is_name" (defArgs s_is_name) (defBody s_is_name) (defScope s_is_name) .none kV0 dc0 pm0 an0 cd0 ct0), sl0⟩) (c0 : PySem.W.codeIn K cd0 "is_name" = true) (k0 : PySem.W.keepIn K (.ref f0) = true)
    {od1 an1 : Option Addr} {sl1 : Array (Option Value)} {oc1 kV1 dc1 pm1 cd1 ct1 : Value} {f1 : Addr}
    (a1 : PySem.W.nsIn K mainGlobals "deed_text" = some (some (.ref f1))) (l1 : K.lookup f1 = some ⟨oc1, od1, .func (PySem.W.fnOf "deed_text" "deed_text" (defArgs s_deed_text) (defBody s_deed_text) (defScope s_deed_text) .none kV1 dc1 pm1 an1 cd1 ct1), sl1⟩) (c1 : PySem.W.codeIn K cd1 "deed_text" = true) (k1 : PySem.W.keepIn K (.ref f1) = true)
    {od2 an2 : Option Addr} {sl2 : Array (Option Value)} {oc2 kV2 dc2 pm2 cd2 ct2 : Value} {f2 : Addr}
    (a2 : PySem.W.nsIn K mainGlobals "deed_of" = some (some (.ref f2))) (l2 : K.lookup f2 = some ⟨oc2, od2, .func (PySem.W.fnOf "deed_of" "deed_of" (defArgs s_deed_of) (defBody s_deed_of) (defScope s_deed_of) .none kV2 dc2 pm2 an2 cd2 ct2), sl2⟩) (c2 : PySem.W.codeIn K cd2 "deed_of" = true) (k2 : PySem.W.keepIn K (.ref f2) = true)
    {od3 an3 : Option Addr} {sl3 : Array (Option Value)} {oc3 kV3 dc3 pm3 cd3 ct3 : Value} {f3 : Addr}
    (a3 : PySem.W.nsIn K mainGlobals "page_text" = some (some (.ref f3))) (l3 : K.lookup f3 = some ⟨oc3, od3, .func (PySem.W.fnOf "page_text" "page_text" (defArgs s_page_text) (defBody s_page_text) (defScope s_page_text) .none kV3 dc3 pm3 an3 cd3 ct3), sl3⟩) (c3 : PySem.W.codeIn K cd3 "page_text" = true) (k3 : PySem.W.keepIn K (.ref f3) = true)
    {od4 an4 : Option Addr} {sl4 : Array (Option Value)} {oc4 kV4 dc4 pm4 cd4 ct4 : Value} {f4 : Addr}
    (a4 : PySem.W.nsIn K mainGlobals "page_deeds" = some (some (.ref f4))) (l4 : K.lookup f4 = some ⟨oc4, od4, .func (PySem.W.fnOf "page_deeds" "page_deeds" (defArgs s_page_deeds) (defBody s_page_deeds) (defScope s_page_deeds) .none kV4 dc4 pm4 an4 cd4 ct4), sl4⟩) (c4 : PySem.W.codeIn K cd4 "page_deeds" = true) (k4 : PySem.W.keepIn K (.ref f4) = true)
    {od5 an5 : Option Addr} {sl5 : Array (Option Value)} {oc5 kV5 dc5 pm5 cd5 ct5 : Value} {f5 : Addr}
    (a5 : PySem.W.nsIn K mainGlobals "joined" = some (some (.ref f5))) (l5 : K.lookup f5 = some ⟨oc5, od5, .func (PySem.W.fnOf "joined" "joined" (defArgs s_joined) (defBody s_joined) (defScope s_joined) .none kV5 dc5 pm5 an5 cd5 ct5), sl5⟩) (c5 : PySem.W.codeIn K cd5 "joined" = true) (k5 : PySem.W.keepIn K (.ref f5) = true)
    {od6 an6 : Option Addr} {sl6 : Array (Option Value)} {oc6 kV6 dc6 pm6 cd6 ct6 : Value} {f6 : Addr}
    (a6 : PySem.W.nsIn K mainGlobals "found_of" = some (some (.ref f6))) (l6 : K.lookup f6 = some ⟨oc6, od6, .func (PySem.W.fnOf "found_of" "found_of" (defArgs s_found_of) (defBody s_found_of) (defScope s_found_of) .none kV6 dc6 pm6 an6 cd6 ct6), sl6⟩) (c6 : PySem.W.codeIn K cd6 "found_of" = true) (k6 : PySem.W.keepIn K (.ref f6) = true)
    {od7 an7 : Option Addr} {sl7 : Array (Option Value)} {oc7 kV7 dc7 pm7 cd7 ct7 : Value} {f7 : Addr}
    (a7 : PySem.W.nsIn K mainGlobals "read_words" = some (some (.ref f7))) (l7 : K.lookup f7 = some ⟨oc7, od7, .func (PySem.W.fnOf "read_words" "read_words" (defArgs s_read_words) (defBody s_read_words) (defScope s_read_words) .none kV7 dc7 pm7 an7 cd7 ct7), sl7⟩) (c7 : PySem.W.codeIn K cd7 "read_words" = true) (k7 : PySem.W.keepIn K (.ref f7) = true)
    {od8 an8 : Option Addr} {sl8 : Array (Option Value)} {oc8 kV8 dc8 pm8 cd8 ct8 : Value} {f8 : Addr}
    (a8 : PySem.W.nsIn K mainGlobals "read_name" = some (some (.ref f8))) (l8 : K.lookup f8 = some ⟨oc8, od8, .func (PySem.W.fnOf "read_name" "read_name" (defArgs s_read_name) (defBody s_read_name) (defScope s_read_name) .none kV8 dc8 pm8 an8 cd8 ct8), sl8⟩) (c8 : PySem.W.codeIn K cd8 "read_name" = true) (k8 : PySem.W.keepIn K (.ref f8) = true)
    {od9 an9 : Option Addr} {sl9 : Array (Option Value)} {oc9 kV9 dc9 pm9 cd9 ct9 : Value} {f9 : Addr}
    (a9 : PySem.W.nsIn K mainGlobals "read_number" = some (some (.ref f9))) (l9 : K.lookup f9 = some ⟨oc9, od9, .func (PySem.W.fnOf "read_number" "read_number" (defArgs s_read_number) (defBody s_read_number) (defScope s_read_number) .none kV9 dc9 pm9 an9 cd9 ct9), sl9⟩) (c9 : PySem.W.codeIn K cd9 "read_number" = true) (k9 : PySem.W.keepIn K (.ref f9) = true)
    {od10 an10 : Option Addr} {sl10 : Array (Option Value)} {oc10 kV10 dc10 pm10 cd10 ct10 : Value} {f10 : Addr}
    (a10 : PySem.W.nsIn K mainGlobals "_law_draws" = some (some (.ref f10))) (l10 : K.lookup f10 = some ⟨oc10, od10, .func (PySem.W.fnOf "_law_draws" "_law_draws" (defArgs s__law_draws) (defBody s__law_draws) (defScope s__law_draws) .none kV10 dc10 pm10 an10 cd10 ct10), sl10⟩) (c10 : PySem.W.codeIn K cd10 "_law_draws" = true) (k10 : PySem.W.keepIn K (.ref f10) = true)
    {od11 an11 : Option Addr} {sl11 : Array (Option Value)} {oc11 kV11 dc11 pm11 cd11 ct11 : Value} {f11 : Addr}
    (a11 : PySem.W.nsIn K mainGlobals "_law_same" = some (some (.ref f11))) (l11 : K.lookup f11 = some ⟨oc11, od11, .func (PySem.W.fnOf "_law_same" "_law_same" (defArgs s__law_same) (defBody s__law_same) (defScope s__law_same) .none kV11 dc11 pm11 an11 cd11 ct11), sl11⟩) (c11 : PySem.W.codeIn K cd11 "_law_same" = true) (k11 : PySem.W.keepIn K (.ref f11) = true)
    {od12 an12 : Option Addr} {sl12 : Array (Option Value)} {oc12 kV12 dc12 pm12 cd12 ct12 : Value} {f12 : Addr}
    (a12 : PySem.W.nsIn K mainGlobals "_law_names" = some (some (.ref f12))) (l12 : K.lookup f12 = some ⟨oc12, od12, .func (PySem.W.fnOf "_law_names" "_law_names" (defArgs s__law_names) (defBody s__law_names) (defScope s__law_names) .none kV12 dc12 pm12 an12 cd12 ct12), sl12⟩) (c12 : PySem.W.codeIn K cd12 "_law_names" = true) (k12 : PySem.W.keepIn K (.ref f12) = true)
    {od13 an13 : Option Addr} {sl13 : Array (Option Value)} {oc13 kV13 dc13 pm13 cd13 ct13 : Value} {f13 : Addr}
    (a13 : PySem.W.nsIn K mainGlobals "_law_number" = some (some (.ref f13))) (l13 : K.lookup f13 = some ⟨oc13, od13, .func (PySem.W.fnOf "_law_number" "_law_number" (defArgs s__law_number) (defBody s__law_number) (defScope s__law_number) .none kV13 dc13 pm13 an13 cd13 ct13), sl13⟩) (c13 : PySem.W.codeIn K cd13 "_law_number" = true) (k13 : PySem.W.keepIn K (.ref f13) = true)
    {od14 an14 : Option Addr} {sl14 : Array (Option Value)} {oc14 kV14 dc14 pm14 cd14 ct14 : Value} {f14 : Addr}
    (a14 : PySem.W.nsIn K mainGlobals "_law_deed" = some (some (.ref f14))) (l14 : K.lookup f14 = some ⟨oc14, od14, .func (PySem.W.fnOf "_law_deed" "_law_deed" (defArgs s__law_deed) (defBody s__law_deed) (defScope s__law_deed) .none kV14 dc14 pm14 an14 cd14 ct14), sl14⟩) (c14 : PySem.W.codeIn K cd14 "_law_deed" = true) (k14 : PySem.W.keepIn K (.ref f14) = true)
    {od15 an15 : Option Addr} {sl15 : Array (Option Value)} {oc15 kV15 dc15 pm15 cd15 ct15 : Value} {f15 : Addr}
    (a15 : PySem.W.nsIn K mainGlobals "_law_is_name" = some (some (.ref f15))) (l15 : K.lookup f15 = some ⟨oc15, od15, .func (PySem.W.fnOf "_law_is_name" "_law_is_name" (defArgs s__law_is_name) (defBody s__law_is_name) (defScope s__law_is_name) .none kV15 dc15 pm15 an15 cd15 ct15), sl15⟩) (c15 : PySem.W.codeIn K cd15 "_law_is_name" = true) (k15 : PySem.W.keepIn K (.ref f15) = true)
    {od16 an16 : Option Addr} {sl16 : Array (Option Value)} {oc16 kV16 dc16 pm16 cd16 ct16 : Value} {f16 : Addr}
    (a16 : PySem.W.nsIn K mainGlobals "_law_is_number" = some (some (.ref f16))) (l16 : K.lookup f16 = some ⟨oc16, od16, .func (PySem.W.fnOf "_law_is_number" "_law_is_number" (defArgs s__law_is_number) (defBody s__law_is_number) (defScope s__law_is_number) .none kV16 dc16 pm16 an16 cd16 ct16), sl16⟩) (c16 : PySem.W.codeIn K cd16 "_law_is_number" = true) (k16 : PySem.W.keepIn K (.ref f16) = true)
    {od17 an17 : Option Addr} {sl17 : Array (Option Value)} {oc17 kV17 dc17 pm17 cd17 ct17 : Value} {f17 : Addr}
    (a17 : PySem.W.nsIn K mainGlobals "_law_shape" = some (some (.ref f17))) (l17 : K.lookup f17 = some ⟨oc17, od17, .func (PySem.W.fnOf "_law_shape" "_law_shape" (defArgs s__law_shape) (defBody s__law_shape) (defScope s__law_shape) .none kV17 dc17 pm17 an17 cd17 ct17), sl17⟩) (c17 : PySem.W.codeIn K cd17 "_law_shape" = true) (k17 : PySem.W.keepIn K (.ref f17) = true)
    {od18 an18 : Option Addr} {sl18 : Array (Option Value)} {oc18 kV18 dc18 pm18 cd18 ct18 : Value} {f18 : Addr}
    (a18 : PySem.W.nsIn K mainGlobals "_law_read" = some (some (.ref f18))) (l18 : K.lookup f18 = some ⟨oc18, od18, .func (PySem.W.fnOf "_law_read" "_law_read" (defArgs s__law_read) (defBody s__law_read) (defScope s__law_read) .none kV18 dc18 pm18 an18 cd18 ct18), sl18⟩) (c18 : PySem.W.codeIn K cd18 "_law_read" = true) (k18 : PySem.W.keepIn K (.ref f18) = true)
    {od19 an19 : Option Addr} {sl19 : Array (Option Value)} {oc19 kV19 dc19 pm19 cd19 ct19 : Value} {f19 : Addr}
    (a19 : PySem.W.nsIn K mainGlobals "_law_line" = some (some (.ref f19))) (l19 : K.lookup f19 = some ⟨oc19, od19, .func (PySem.W.fnOf "_law_line" "_law_line" (defArgs s__law_line) (defBody s__law_line) (defScope s__law_line) .none kV19 dc19 pm19 an19 cd19 ct19), sl19⟩) (c19 : PySem.W.codeIn K cd19 "_law_line" = true) (k19 : PySem.W.keepIn K (.ref f19) = true)
    {od20 an20 : Option Addr} {sl20 : Array (Option Value)} {oc20 kV20 dc20 pm20 cd20 ct20 : Value} {f20 : Addr}
    (a20 : PySem.W.nsIn K mainGlobals "_law_spoilt" = some (some (.ref f20))) (l20 : K.lookup f20 = some ⟨oc20, od20, .func (PySem.W.fnOf "_law_spoilt" "_law_spoilt" (defArgs s__law_spoilt) (defBody s__law_spoilt) (defScope s__law_spoilt) .none kV20 dc20 pm20 an20 cd20 ct20), sl20⟩) (c20 : PySem.W.codeIn K cd20 "_law_spoilt" = true) (k20 : PySem.W.keepIn K (.ref f20) = true)
    {od21 an21 : Option Addr} {sl21 : Array (Option Value)} {oc21 kV21 dc21 pm21 cd21 ct21 : Value} {f21 : Addr}
    (a21 : PySem.W.nsIn K mainGlobals "_law_all_read" = some (some (.ref f21))) (l21 : K.lookup f21 = some ⟨oc21, od21, .func (PySem.W.fnOf "_law_all_read" "_law_all_read" (defArgs s__law_all_read) (defBody s__law_all_read) (defScope s__law_all_read) .none kV21 dc21 pm21 an21 cd21 ct21), sl21⟩) (c21 : PySem.W.codeIn K cd21 "_law_all_read" = true) (k21 : PySem.W.keepIn K (.ref f21) = true)
    {od22 an22 : Option Addr} {sl22 : Array (Option Value)} {oc22 kV22 dc22 pm22 cd22 ct22 : Value} {f22 : Addr}
    (a22 : PySem.W.nsIn K mainGlobals "law" = some (some (.ref f22))) (l22 : K.lookup f22 = some ⟨oc22, od22, .func (PySem.W.fnOf "law" "law" (defArgs s_law) (defBody s_law) (defScope s_law) .none kV22 dc22 pm22 an22 cd22 ct22), sl22⟩) (c22 : PySem.W.codeIn K cd22 "law" = true) (k22 : PySem.W.keepIn K (.ref f22) = true)
    (z0 : PySem.W.nsIn K mainGlobals "ValueError" = some none)
    (z1 : PySem.W.nsIn K mainGlobals "abs" = some none)
    (z2 : PySem.W.nsIn K mainGlobals "all" = some none)
    (z3 : PySem.W.nsIn K mainGlobals "bool" = some none)
    (z4 : PySem.W.nsIn K mainGlobals "int" = some none)
    (z5 : PySem.W.nsIn K mainGlobals "isinstance" = some none)
    (z6 : PySem.W.nsIn K mainGlobals "len" = some none)
    (z7 : PySem.W.nsIn K mainGlobals "list" = some none)
    (z8 : PySem.W.nsIn K mainGlobals "range" = some none)
    (z9 : PySem.W.nsIn K mainGlobals "str" = some none)
    (z10 : PySem.W.nsIn K mainGlobals "tuple" = some none)
    (z11 : PySem.W.nsIn K mainGlobals "zip" = some none)
    {tk0 : Tok} (n0 : PySem.W.nsIn K mainGlobals "LETTERS" = some (some (.str "abcdefghijklmnopqrstuvwxyz" tk0)))
    {tk1 : Tok} (n1 : PySem.W.nsIn K mainGlobals "LONGEST_NAME" = some (some (.int 12 tk1)))
    {tk2 : Tok} (n2 : PySem.W.nsIn K mainGlobals "FIGURES" = some (some (.str "0123456789" tk2)))
    {tk3 : Tok} (n3 : PySem.W.nsIn K mainGlobals "MOST_FIGURES" = some (some (.int 12 tk3)))
    {tk4 : Tok} (n4 : PySem.W.nsIn K mainGlobals "FOUND" = some (some (.str "found" tk4)))
    {tk5 : Tok} (n5 : PySem.W.nsIn K mainGlobals "PLAIN" = some (some (.str "plain" tk5)))
    {tk6 : Tok} (n6 : PySem.W.nsIn K mainGlobals "BIDS" = some (some (.str "bids" tk6)))
    {tk7 : Tok} (n7 : PySem.W.nsIn K mainGlobals "SEAT_WORDS" = some (some (.int 3 tk7)))
    {fc0 : Addr}
    (x1 : PySem.W.nsIn K mainGlobals "SusuError" = some (some (.ref fc0)))
    {fc2 : Addr}
    (x3 : PySem.W.nsIn K mainGlobals "BadName" = some (some (.ref fc2)))
    {fc4 : Addr}
    (x5 : PySem.W.nsIn K mainGlobals "NoDeed" = some (some (.ref fc4)))
    (x6 : PySem.W.excIn K fc4 vErr "ValueError.__new__" = true)
    (x7 : PySem.W.keepIn K (.ref fc4) = true)
    (x8_0 : PySem.W.findIn K (.ref fc4) "__getattribute__" = some (some (.builtin "BaseException.__getattribute__")))
    (x8_1 : PySem.W.findIn K (.ref fc4) "__getattr__" = some none)
    (x8_2 : PySem.W.subIn K (.ref fc4) (.type "BaseException") = some true)
    (x8_3 : PySem.W.hasDictIn K fc4 = true)
    (x8_4 : PySem.W.findIn K (.ref fc4) "__class__" = some (some (.builtin "object.__class__")))
    (x8_5 : PySem.W.specialIn K (.builtin "object.__class__") "__get__" = some (some (.builtin "getset_descriptor.__get__")))
    (x8_6 : PySem.W.takesIn K (.builtin "object.__class__") = some true)
    (x8_7 : PySem.W.mroIn K fc4 (.type "object") = some true)
    (x9 : PySem.W.subIn K (.ref fc4) (.ref fc0) = some true)
    (x10 : PySem.W.kitOne K (.ref fc4) (.ref fc4) = some true)
    (x11 : PySem.W.kitOne K (.ref fc4) (.type "ValueError") = some true)
    (x12 : PySem.W.kitOne K (.ref fc4) (.ref fc2) = some false)
    (x13 : PySem.W.subIn K (.ref fc4) (.type "BaseException") = some true)
    (x14 : PySem.W.typeIn K (.ref fc4) = some (.type "type"))
    (x15 : PySem.W.subIn K (.ref fc0) (.type "BaseException") = some true)
    (x16 : PySem.W.typeIn K (.ref fc0) = some (.type "type"))
    (x17 : PySem.W.hasDictIn K fc0 = true)
    {fq0 : Addr} (mq0 : PySem.W.nsIn K mainGlobals "FORMS" = some (some (.ref fq0)))
    (dq0 : ModD K w.params fq0 [("enter", .str "n"), ("part", .str "n"), ("bring", .str "nc"), ("take", .str "nc"), ("pay", .str "nn"), ("bid", .str "nnc"), ("lay", .str "nnc"), ("swap", .str "nnn"), ("close", .str "n")]) :
    ∃ fd : FuncData, (∀ (s : Shared) (v : Value), BindsTo s fd ⟨[v], []⟩ [("_law_script", v)]) ∧ ∀ base : Heap, K.In base → base.Ns mainGlobals mg → FnOk l.prog w K mg base CX0 7 fa fd ["_law_script"] (spLaw K) := by
  have e := hfa.symm.trans (PySem.W.mg_of X G a22)
  cases e
  exact ⟨PySem.W.fnOf "law" "law" (defArgs s_law) (defBody s_law) (defScope s_law) .none kV22 dc22 pm22 an22 cd22 ct22, fun s v => .of_eq rfl, fun base _ _ => ok_law (fun_mk (st := s_law) l22 c22 k22) (top_mk X G a0 l0 c0 k0 a1 l1 c1 k1 a2 l2 c2 k2 a3 l3 c3 k3 a4 l4 c4 k4 a5 l5 c5 k5 a6 l6 c6 k6 a7 l7 c7 k7 a8 l8 c8 k8 a9 l9 c9 k9 a10 l10 c10 k10 a11 l11 c11 k11 a12 l12 c12 k12 a13 l13 c13 k13 a14 l14 c14 k14 a15 l15 c15 k15 a16 l16 c16 k16 a17 l17 c17 k17 a18 l18 c18 k18 a19 l19 c19 k19 a20 l20 c20 k20 a21 l21 c21 k21 a22 l22 c22 k22 z0 z1 z2 z3 z4 z5 z6 z7 z8 z9 z10 z11 n0 n1 n2 n3 n4 n5 n6 n7 x1 x3 x5 x6 x7 x8_0 x8_1 x8_2 x8_3 x8_4 x8_5 x8_6 x8_7 x9 x10 x11 x12 x13 x14 x15 x16 x17 mq0) dq0⟩
end Su
namespace Su
open PySem PySem.W PySem.Calls PyProof.Rows
abbrev hdR : OpenRow := OpenLaw.row PySem.Challenge.rw_susu_k39_pages
abbrev hdV : Program := view hdR.prog [38]
def hdN0 : List PySem.Str := ["SusuError", "BadName", "NoDeed", "LETTERS", "LONGEST_NAME", "is_name", "FIGURES", "MOST_FIGURES", "FORMS", "FOUND", "PLAIN", "BIDS", "SEAT_WORDS", "deed_text", "deed_of", "page_text", "page_deeds", "joined", "found_of", "read_words", "read_name", "read_number", "_law_draws", "_law_same", "_law_names", "_law_number", "_law_deed", "_law_is_name", "_law_is_number", "_law_shape"]
def hdN1 : List PySem.Str := ["_law_read", "_law_line", "_law_spoilt", "_law_all_read"]
def hdN : List PySem.Str := (hdN0 ++ hdN1)
theorem hdUse {p : Prop} (_H : PySem.W.Hook) (h : p) : p := h
end Su
local macro_rules | `(tactic| o_head $H:term) => `(tactic| exact Su.hdUse $H (by assumption))
open PySem PySem.W PySem.Calls PyProof.Rows
set_option maxHeartbeats 0 in
theorem Su.hdK (h : OpenRow.Holds Su.hdR) : OpenRow.Holds Su.hdR := by
  k_head

namespace Su
def hdA0 : List Addr := [2, 3, 15, 22, 23, 24, 25, 28, 35, 36, 37, 40, 47, 48, 49, 52, 55, 56, 57, 58, 61, 62, 63, 65, 66, 68, 69, 70, 73, 74]
def hdA1 : List Addr := [75, 78, 79, 80, 83, 84, 85, 88, 89, 90, 93, 94, 95, 97, 98, 100, 101, 102, 105, 106, 107, 109, 110, 112, 113, 114, 117, 118, 119, 122]
def hdA2 : List Addr := [123, 124, 126, 127, 129, 130, 131, 133, 134, 136, 137, 138, 141, 142, 143, 146, 147, 148, 150, 151, 153, 154, 155, 158, 159, 160, 163, 164, 165, 167]
def hdA3 : List Addr := [168, 170, 171, 172, 175, 176, 177, 180, 181]
def hdA : List Addr := (hdA0 ++ (hdA1 ++ (hdA2 ++ hdA3)))
set_option maxHeartbeats 0 in
theorem hdE : ∀ P, hdA = (Su.hdK.heap_1 P).map (·.1) := fun P => by kernel_rfl
def hdX : List Addr := []
noncomputable abbrev hdH : PySem.W.Hook := kHook Su.hdK.heap_1 hdA hdE
def hdO (s : SharedT) : List (Option Obj) := hdA.map (HandSHeadRun.getT s)
theorem hdO_eq (s : SharedT) : hdO s = hdH.obs s.abs := by
  show hdA.map _ = hdA.map s.abs.heap.get?
  rw [show HandSHeadRun.getT s = s.abs.heap.get? from funext fun a => HandSHeadRun.getT_eq s a]
set_option maxHeartbeats 0 in
theorem hdF (w : World) : HandSHeadRun.RunEq hdR hdV hdH hdO 14000 hdN (w.withFollow "special-get-raises" false) := by intro os; kernel_rfl
set_option maxHeartbeats 0 in
theorem hdT (w : World) : HandSHeadRun.RunEq hdR hdV hdH hdO 14000 hdN (w.withFollow "special-get-raises" true) := by intro os; kernel_rfl
theorem hdRun (w : World) : HandSHeadRun.RunEq hdR hdV hdH hdO 14000 hdN w := PySem.W.byRow2 "special-get-raises" hdF hdT w
end Su
open PySem PySem.W PyProof.Rows
set_option maxHeartbeats 0 in
theorem PySem.Challenge.cw_susu_k39_pages_holds : PySem.Challenge.rw_susu_k39_pages.Holds := by
  w_on; o_law; refine HandSHeadRun.head_any (r := Su.hdR) (q := Su.hdV) (H := Su.hdH) (ob := Su.hdO) (M := 14000) (loose := Su.hdN) (d := HandSHeadRun.topDef Su.hdR.prog 38) (kwd := []) Su.hdO_eq (by kernel_rfl) (fun s => by kernel_rfl) Su.hdRun (by kernel_rfl) (by kernel_rfl) (by kernel_rfl) (by rfl) (by first | assumption | decide +kernel) (by decide +kernel) ⟨rfl, rfl, rfl, rfl, rfl, by decide +kernel⟩ ?hw ?hc; (case hw => w_witness2)
  k_fill
  refine L2.walk_of (l := PySem.Challenge.rw_susu_k39_pages) (n := 63) (k := 7) (x := "_law_script") (CX := fun _ => L2.CX0) (sp := fun w => Su.spLaw _) rfl (by decide) rfl ⟨rfl, by decide, by decide⟩ (fun w h Y => PySem.W.kIn_of Y) ?F (fun _ _ a ns hl _ hS => ⟨a, ns, rfl, hS, hl, fun _ => rfl⟩) (fun _ _ _ _ _ h => h)
  case F =>
    intro w mg fa h KX G hmg
    refine' Su.all_mk KX G hmg ?a0 ?l0 ?c0 ?k0 ?a1 ?l1 ?c1 ?k1 ?a2 ?l2 ?c2 ?k2 ?a3 ?l3 ?c3 ?k3 ?a4 ?l4 ?c4 ?k4 ?a5 ?l5 ?c5 ?k5 ?a6 ?l6 ?c6 ?k6 ?a7 ?l7 ?c7 ?k7 ?a8 ?l8 ?c8 ?k8 ?a9 ?l9 ?c9 ?k9 ?a10 ?l10 ?c10 ?k10 ?a11 ?l11 ?c11 ?k11 ?a12 ?l12 ?c12 ?k12 ?a13 ?l13 ?c13 ?k13 ?a14 ?l14 ?c14 ?k14 ?a15 ?l15 ?c15 ?k15 ?a16 ?l16 ?c16 ?k16 ?a17 ?l17 ?c17 ?k17 ?a18 ?l18 ?c18 ?k18 ?a19 ?l19 ?c19 ?k19 ?a20 ?l20 ?c20 ?k20 ?a21 ?l21 ?c21 ?k21 ?a22 ?l22 ?c22 ?k22 ?z0 ?z1 ?z2 ?z3 ?z4 ?z5 ?z6 ?z7 ?z8 ?z9 ?z10 ?z11 ?n0 ?n1 ?n2 ?n3 ?n4 ?n5 ?n6 ?n7 ?x1 ?x3 ?x5 ?x6 ?x7 ?x8_0 ?x8_1 ?x8_2 ?x8_3 ?x8_4 ?x8_5 ?x8_6 ?x8_7 ?x9 ?x10 ?x11 ?x12 ?x13 ?x14 ?x15 ?x16 ?x17 ?mq0 ?dq0
    (case a0 => k_is); (case l0 => k_is); (case c0 => k_is); (case k0 => k_is); (case a1 => k_is); (case l1 => k_is); (case c1 => k_is); (case k1 => k_is); (case a2 => k_is); (case l2 => k_is); (case c2 => k_is); (case k2 => k_is); (case a3 => k_is); (case l3 => k_is); (case c3 => k_is); (case k3 => k_is); (case a4 => k_is); (case l4 => k_is); (case c4 => k_is); (case k4 => k_is); (case a5 => k_is); (case l5 => k_is); (case c5 => k_is); (case k5 => k_is); (case a6 => k_is); (case l6 => k_is); (case c6 => k_is); (case k6 => k_is); (case a7 => k_is); (case l7 => k_is); (case c7 => k_is); (case k7 => k_is); (case a8 => k_is); (case l8 => k_is); (case c8 => k_is); (case k8 => k_is); (case a9 => k_is); (case l9 => k_is); (case c9 => k_is); (case k9 => k_is); (case a10 => k_is); (case l10 => k_is); (case c10 => k_is); (case k10 => k_is); (case a11 => k_is); (case l11 => k_is); (case c11 => k_is); (case k11 => k_is); (case a12 => k_is); (case l12 => k_is); (case c12 => k_is); (case k12 => k_is); (case a13 => k_is); (case l13 => k_is); (case c13 => k_is); (case k13 => k_is); (case a14 => k_is); (case l14 => k_is); (case c14 => k_is); (case k14 => k_is); (case a15 => k_is); (case l15 => k_is); (case c15 => k_is); (case k15 => k_is); (case a16 => k_is); (case l16 => k_is); (case c16 => k_is); (case k16 => k_is); (case a17 => k_is); (case l17 => k_is); (case c17 => k_is); (case k17 => k_is); (case a18 => k_is); (case l18 => k_is); (case c18 => k_is); (case k18 => k_is); (case a19 => k_is); (case l19 => k_is); (case c19 => k_is); (case k19 => k_is); (case a20 => k_is); (case l20 => k_is); (case c20 => k_is); (case k20 => k_is); (case a21 => k_is); (case l21 => k_is); (case c21 => k_is); (case k21 => k_is); (case a22 => k_is); (case l22 => k_is); (case c22 => k_is); (case k22 => k_is); (case z0 => k_is); (case z1 => k_is); (case z2 => k_is); (case z3 => k_is); (case z4 => k_is); (case z5 => k_is); (case z6 => k_is); (case z7 => k_is); (case z8 => k_is); (case z9 => k_is); (case z10 => k_is); (case z11 => k_is); (case n0 => k_is); (case n1 => k_is); (case n2 => k_is); (case n3 => k_is); (case n4 => k_is); (case n5 => k_is); (case n6 => k_is); (case n7 => k_is); (case x1 => first | k_is | k_exc | rfl); (case x3 => first | k_is | k_exc | rfl); (case x5 => first | k_is | k_exc | rfl); (case x6 => first | k_is | k_exc | rfl); (case x7 => first | k_is | k_exc | rfl); (case x8_0 => first | k_is | k_exc | rfl); (case x8_1 => first | k_is | k_exc | rfl); (case x8_2 => first | k_is | k_exc | rfl); (case x8_3 => first | k_is | k_exc | rfl); (case x8_4 => first | k_is | k_exc | rfl); (case x8_5 => first | k_is | k_exc | rfl); (case x8_6 => first | k_is | k_exc | rfl); (case x8_7 => first | k_is | k_exc | rfl); (case x9 => first | k_is | k_exc | rfl); (case x10 => first | k_is | k_exc | rfl); (case x11 => first | k_is | k_exc | rfl); (case x12 => first | k_is | k_exc | rfl); (case x13 => first | k_is | k_exc | rfl); (case x14 => first | k_is | k_exc | rfl); (case x15 => first | k_is | k_exc | rfl); (case x16 => first | k_is | k_exc | rfl); (case x17 => first | k_is | k_exc | rfl); (case mq0 => k_is); (case dq0 => refine' Su.modd_mk ?l ?k ?f ?o; (case l => k_is); (case k => k_keys); (case f => exact ⟨⟨_, rfl⟩, ⟨_, rfl⟩, ⟨⟨_, rfl⟩, ⟨_, rfl⟩, ⟨⟨_, rfl⟩, ⟨_, rfl⟩, ⟨⟨_, rfl⟩, ⟨_, rfl⟩, ⟨⟨_, rfl⟩, ⟨_, rfl⟩, ⟨⟨_, rfl⟩, ⟨_, rfl⟩, ⟨⟨_, rfl⟩, ⟨_, rfl⟩, ⟨⟨_, rfl⟩, ⟨_, rfl⟩, ⟨⟨_, rfl⟩, ⟨_, rfl⟩, trivial⟩⟩⟩⟩⟩⟩⟩⟩⟩); (case o => rfl))

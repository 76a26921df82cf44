import PyProof.Rows.All
import Wide.All
import OpenK.AllK
import Wide.FinOn
import KE.KNestM
import KE.KLam
import KE.DataMinKey
import HandS.Nested
import HandS.EndTab
import HandS.Words
import HandS.ForMost
import HandS.WordsExc
import HandS.ExcOwn
import HandS.Exc
import HandS.Evl
import HandS.IsInst
import HandS.Wide
import HandS.Zip
import HandS.More
import KE.GoesEnumKw
import KE.GoesMore
import HandS.SortKw
import KE.KEqDeep
import HandS.Conv
import HandS.ExcIs
import HandS.Strs
import HandS.SetFor
import HandS.Set
import HandS.Iter
import HandS.Dict
import HandS.Comp
import HandS.Defaults
import HandS.Text
import HandS.Walk
import HandS.Star
import KE.KRevSl
import KE.SortKeyHeap
import HandS.ExcValue
import HandS.CallLocal
import HandS.Keys
import HandS.RaiseMore
import HandS.Sort
import HandS.Conv
import HandS.NoneIn
import HandS.TryOnly
import HandS.Codes
import KE.GoesZip
import KE.GoesMore
import HandS.Head0
import HandS.Head1
import HandS.Head2
import PySem.Challenge.RW_susu_k40_members_and_purses
set_option Elab.async false
set_option linter.all false
set_option maxRecDepth 100000

namespace Su
open PySem PySem.Spec PyProof.Rows L2 Evl
/-! ### small rules over HandS.Evl -/
theorem CMul.l {i j : Int} (h1 : -(2 ^ 64) < i) (h2 : i < 2 ^ 64) : CMul i j := .inl ⟨h1, h2⟩
theorem CMul.r {i j : Int} (h1 : -(2 ^ 64) < j) (h2 : j < 2 ^ 64) : CMul i j := .inr ⟨h1, h2⟩
theorem rv_mod {H : Hp} {i j : Int} (h : 0 < j) : RV (rI (fun _ j => 0 < j) fun i j => .int (i % j)) (.int i) (.int j) H (.int (i % j)) := rv_I h
theorem rv_div {H : Hp} {i j : Int} (h : 0 < j) (h2 : j < 1073741824) : RV (rI CDiv fun i j => .int (i / j)) (.int i) (.int j) H (.int (i / j)) := rv_I ⟨h, h2⟩
theorem rv_mul {H : Hp} {i j : Int} (h : CMul i j) : RV (rI CMul fun i j => .int (i * j)) (.int i) (.int j) H (.int (i * j)) := rv_I h
theorem rv_pow {H : Hp} {i j : Int} (h : CPow i j) : RV (rI CPow fun i j => .int (i ^ j.toNat)) (.int i) (.int j) H (.int (i ^ j.toNat)) := rv_I h
theorem rv_p18 {H : Hp} : RV (rI CPow fun i j => .int (i ^ j.toNat)) (.int 10) (.int 18) H (.int (10 ^ 18)) := rv_I (C := CPow) (g := fun i j => .int (i ^ j.toNat)) ⟨by decide, by decide, by decide⟩
theorem rv_p12 {H : Hp} : RV (rI CPow fun i j => .int (i ^ j.toNat)) (.int 10) (.int 12) H (.int (10 ^ 12)) := rv_I (C := CPow) (g := fun i j => .int (i ^ j.toNat)) ⟨by decide, by decide, by decide⟩
theorem rv_p20 {H : Hp} : RV (rI CPow fun i j => .int (i ^ j.toNat)) (.int 10) (.int 20) H (.int (10 ^ 20)) := rv_I (C := CPow) (g := fun i j => .int (i ^ j.toNat)) ⟨by decide, by decide, by decide⟩
theorem rv_divW {H : Hp} {i j : Int} (h : CDivW i j) : RV (rI CDivW fun i j => .int (i / j)) (.int i) (.int j) H (.int (i / j)) := rv_I h
theorem rv_mulW {H : Hp} {i j : Int} (h : CMulW i j) : RV (rI CMulW fun i j => .int (i * j)) (.int i) (.int j) H (.int (i * j)) := rv_I h
theorem rc_abs {H : Hp} {i : Int} : RC (fun xs H Q => ∃ i, xs = [V.int i] ∧ Q (.int (if i < 0 then -i else i)) H) [.int i] H (.int (if i < 0 then -i else i)) := fun H1 _ _ q => ⟨i, rfl, q H1 (Ex.refl H1)⟩
theorem rc_max {H : Hp} {i j : Int} : RC (fun xs H Q => ∃ i j, xs = [V.int i, .int j] ∧ Q (.int (if j > i then j else i)) H) [.int i, .int j] H (.int (if j > i then j else i)) := fun H1 _ _ q => ⟨i, j, rfl, q H1 (Ex.refl H1)⟩
theorem rc_min {H : Hp} {i j : Int} : RC (fun xs H Q => ∃ i j, xs = [V.int i, .int j] ∧ Q (.int (if j < i then j else i)) H) [.int i, .int j] H (.int (if j < i then j else i)) := fun H1 _ _ q => ⟨i, j, rfl, q H1 (Ex.refl H1)⟩
theorem rc_len {K : PySem.W.Frag} {H : Hp} {p : Addr} {ys : List V} (h : SqL K H p ys ∨ SqT K H p ys) : RC (fun xs H Q => ∃ p ys, xs = [V.ref p] ∧ (SqL K H p ys ∨ SqT K H p ys) ∧ Q (.int ys.length) H) [.ref p] H (.int ys.length) :=
  fun H1 e _ q => ⟨p, ys, rfl, h.elim (fun h => .inl (ex_l e h)) (fun h => .inr (ex_t e h)), q H1 (Ex.refl H1)⟩
theorem rc_isi_int {K : PySem.W.Frag} {H : Hp} {i : Int} {n : String} {b : Bool} (h : kitB "int" n = some b) : RC (rIsi K) [.int i, .ty n] H (.bl b) :=
  fun H1 _ _ q => ⟨.int i, .ty n, .type "int", .type n, b, rfl, .ty n, .base (.int i), kit_ty h, q H1 (Ex.refl H1)⟩
theorem ex_g {H H' : Hp} {a : Addr} {o : HO} (e : Ex H H') (h : H a = some o) : H' a = some o := e a o h
theorem at_rows {rows : List Int} {z : Int} (h0 : 0 ≤ z) (h : z < rows.length) : atI (rows.map V.int) z = some (.int (rows.getD z.toNat 0)) := by
  have hz : z = ((z.toNat : Nat) : Int) := by omega
  have hl : z.toNat < rows.length := by omega
  refine at_of hz ?_
  rw [List.getElem?_map, List.getElem?_eq_getElem hl, List.getD_eq_getElem?_getD, List.getElem?_eq_getElem hl]
  rfl
theorem at4 {a b c d z : Int} (h0 : 0 ≤ z) (h : z < 4) : atI [V.int a, .int b, .int c, .int d] z = some (.int (if z = 0 then a else if z = 1 then b else if z = 2 then c else d)) := by
  have h4 : z = 0 ∨ z = 1 ∨ z = 2 ∨ z = 3 := by omega
  rcases h4 with rfl | rfl | rfl | rfl <;> rfl
theorem wm {i j : Int} (h1 : i.natAbs < 2 ^ 240) (h2 : j.natAbs < 2 ^ 240) : CMulW i j := wide_mul h1 h2 (by decide) (by decide) (by decide)
theorem wd {i j : Int} (h : 0 < j) (h2 : j.natAbs < 2 ^ 240) : CDivW i j := wide_div h h2 (by decide) (by decide)
theorem n400 {i : Int} {n : Int} (h1 : -n ≤ i) (h2 : i ≤ n) (h : n.toNat < 2 ^ 240) : i.natAbs < 2 ^ 240 := by omega
theorem n400' {i : Int} (h1 : -(10 ^ 70) ≤ i) (h2 : i ≤ 10 ^ 70) : i.natAbs < 2 ^ 240 := n400 h1 h2 (by decide)
theorem decT {p : Prop} [Decidable p] (h : p) {b : Bool} (e : decide p = b) : b = true := by rw [← e]; exact decide_eq_true h
abbrev vErr : List Value := [.type "ValueError", .type "Exception", .type "BaseException", .type "object"]
theorem ex_up {H : Hp} {p : Addr} {o' : HO} {H0 : Hp} (e : Ex H0 H) (hp : H0 p = none) : Ex H0 (upd H p o') := Ex.mut e hp
theorem seq_ne {K : PySem.W.Frag} {H H' : Hp} {a : Addr} {xs : List V} (e : Ex H H') (h : SqL K H a xs) : SqL K H' a xs := ex_l e h
/-- a def's call that hands back a new list of which something is known -/
def SpN (sp : Sp) (vs : List V) (H : Hp) (P : List V → Prop) : Prop := ∀ H1, Ex H H1 → ∀ Q : VK, (∀ xs p H2, P xs → H1 p = none → Ex H1 H2 → H2 p = some (.lst xs) → Q (.ref p) H2) → ∀ E : XK, sp vs H1 Q E
theorem q_callN {sp : Sp} {dvs vs : List V} {E : XK} {ta : TA} {σ : L2.St} {H : Hp} {i : Nat} {D : Ends} {tz : TS} {P : List V → Prop} (h : EvA ta σ H vs) (hs : SpN sp (vs ++ dvs) H P)
    (k : ∀ xs p H1, P xs → H p = none → Ex H H1 → H1 p = some (.lst xs) → tz D (σ.set i (some (.ref p))) H1) : tSeq (tAsg (tCall sp dvs E ta) (gName i)) tz D σ H :=
  h H (Ex.refl H) _ fun H1 e1 => hs H1 e1 _ (fun xs p H2 hP hp e2 h2 => k xs p H2 hP (fresh_back e1 hp) (e1.trans e2) h2) E
theorem s_callN {sp : Sp} {dvs vs : List V} {E : XK} {ta : TA} {σ : L2.St} {H : Hp} {i : Nat} {D : Ends} {P : List V → Prop} (h : EvA ta σ H vs) (hs : SpN sp (vs ++ dvs) H P)
    (k : ∀ xs p H1, P xs → H p = none → Ex H H1 → H1 p = some (.lst xs) → D.nx (σ.set i (some (.ref p))) H1) : tAsg (tCall sp dvs E ta) (gName i) D σ H :=
  h H (Ex.refl H) _ fun H1 e1 => hs H1 e1 _ (fun xs p H2 hP hp e2 h2 => k xs p H2 hP (fresh_back e1 hp) (e1.trans e2) h2) E
/-- .. whose first argument is a new list -/
theorem s_callN1 {sp : Sp} {dvs vs xs0 : List V} {E : XK} {te : TE} {tr : TA} {σ : L2.St} {H : Hp} {i : Nat} {D : Ends} {P : List V → Prop} (h1 : EvL te σ H xs0) (h2 : EvA tr σ H vs) (hs : ∀ p0 H1, Ex H H1 → H1 p0 = some (.lst xs0) → SpN sp (.ref p0 :: vs ++ dvs) H1 P)
    (k : ∀ xs p H1, P xs → H p = none → Ex H H1 → H1 p = some (.lst xs) → D.nx (σ.set i (some (.ref p))) H1) : tAsg (tCall sp dvs E (tCons te tr)) (gName i) D σ H :=
  h1 H (Ex.refl H) _ fun p0 H1 _ e1 hp0 => h2 H1 e1 _ fun H2 e2 => hs p0 H2 (e1.trans e2) (e2 _ _ hp0) H2 (Ex.refl H2) _ (fun xs p H3 hP hp e3 h3 => k xs p H3 hP (fresh_back (e1.trans e2) hp) ((e1.trans e2).trans e3) h3) E
theorem ev_callL {sp : Sp} {dvs vs xs0 : List V} {E : XK} {te : TE} {tr : TA} {σ : L2.St} {H : Hp} {z : V} (h1 : EvL te σ H xs0) (h2 : EvA tr σ H vs) (hs : ∀ p0 H1, Ex H H1 → H1 p0 = some (.lst xs0) → SpV sp (.ref p0 :: vs ++ dvs) H1 z) : Ev (tCall sp dvs E (tCons te tr)) σ H z := fun H0 e0 Q q =>
  h1 H0 e0 _ fun p0 H1 _ e1 hp0 => h2 H1 (e0.trans e1) _ fun H2 e2 => hs p0 H2 ((e0.trans e1).trans e2) (e2 _ _ hp0) H2 (Ex.refl H2) _ (fun H3 e3 => q H3 ((e1.trans e2).trans e3)) E
theorem cut_from (xs : List V) (k : Nat) : cutV xs (some (k : Int)) none = xs.drop k := by
  unfold cutV
  rw [HT.sIx_nat, HT.sIx_none]
  by_cases h : k ≤ xs.length
  · rw [Nat.min_eq_left h, List.take_of_length_le (by rw [List.length_drop]; omega)]
  · rw [Nat.min_eq_right (by omega), Nat.sub_self, List.take_zero, List.drop_of_length_le (by omega)]
theorem s_asgSub {l : Addr} {xs : List V} {z : Int} {j : Nat} {te ta tb : TE} {σ : L2.St} {H : Hp} {v : V} {D : Ends} (hl : H l = some (.lst xs)) (h : Ev te σ H v) (ho : Ev ta σ H (.ref l)) (hi : Ev tb σ H (.int z)) (hz : z = (j : Int)) (hj : j < xs.length)
    (k : ∀ H1, Ex H H1 → D.nx σ (upd H1 l (.lst (xs.set j v)))) : tAsg te (gSub ta tb rSetL) D σ H := s_setL hl h ho (hz ▸ hi) hj k
end Su
open PySem PySem.Spec PyProof.Rows L2 Evl Su
/-! ### small tactics: "ev" an expression, "et" a test, "ea" arguments, "rv" an operator, "rc" a built-in, "hc" a bound -/
local macro_rules | `(tactic| walk_at "hc") => `(tactic| first | assumption | omega | (exact Su.CMul.l (by omega) (by omega)) | (exact Su.CMul.r (by omega) (by omega)) | (exact Su.wm (Su.n400' (by omega) (by omega)) (Su.n400' (by omega) (by omega))) | (exact Su.wd (by omega) (Su.n400' (by omega) (by omega))) | decide)
local macro_rules | `(tactic| walk_at "rv") => `(tactic| first
  | (with_reducible exact rv_I0)
  | (with_reducible exact rv_eq rfl)
  | (with_reducible exact rv_ne rfl)
  | (with_reducible refine Su.rv_mod ?_; walk_at "hc")
  | (with_reducible refine Su.rv_div ?_ ?_ <;> walk_at "hc")
  | (with_reducible refine Su.rv_mul ?_; walk_at "hc")
  | exact Su.rv_p18
  | exact Su.rv_p12
  | exact Su.rv_p20
  | (with_reducible refine Su.rv_divW ?_; walk_at "hc")
  | (with_reducible refine Su.rv_mulW ?_; walk_at "hc")
  | (apply rv_ixL; (first | assumption | (exact sq_of (by assumption))); (first | (apply Su.at_rows <;> walk_at "hc") | rfl | assumption)))
local macro_rules | `(tactic| walk_at "rc") => `(tactic| first
  | exact Su.rc_abs
  | exact Su.rc_max
  | exact Su.rc_min
  | exact Su.rc_isi_int (b := true) (by decide +kernel)
  | exact Su.rc_isi_int (b := false) (by decide +kernel))
local macro_rules | `(tactic| walk_at "ea") => `(tactic| first
  | exact ea_nil
  | (apply ea_cons; (walk_at "ev"); (walk_at "ea")))
local macro_rules | `(tactic| walk_at "ev") => `(tactic| first
  | exact ev_c
  | exact ev_var rfl
  | (apply ev_op; (walk_at "ev"); (walk_at "ev"); (walk_at "rv"))
  | (apply ev_un; (walk_at "ev"); (exact ru_neg))
  | (apply ev_andV; (walk_at "ev"); (intro _; walk_at "ev"))
  | (apply ev_orV; (walk_at "ev"); (intro _; walk_at "ev"))
  | (apply ev_notV; (walk_at "ev"))
  | (apply ev_len; (walk_at "ev"); first | assumption | (exact sq_of (by assumption)))
  | (apply ev_cb; (walk_at "ea"); (walk_at "rc")))
local macro_rules | `(tactic| walk_at "et") => `(tactic| first
  | (apply et_and; (walk_at "et"); (intro _; walk_at "et"))
  | (apply et_or; (walk_at "et"); (intro _; walk_at "et"))
  | (apply et_not; (walk_at "et"))
  | (apply et_test; (walk_at "ev"))
  | (apply et_B; (walk_at "ev")))

open PySem PySem.Spec PyProof.Rows L2 Evl Su
namespace Su
def topS (i : Nat) : Stmt := PySem.Challenge.pw_susu_k40_members_and_purses.main.body.getD i (.Pass ⟨0, 0, 0, 0⟩)
abbrev s__wall : Stmt := topS 0
abbrev N__wall : List Str := ["k"]
theorem sc__wall : FnScope N__wall ["k"] (defScope s__wall) := ⟨rfl, rfl, rfl, by decide +kernel, rfl, by decide +kernel, by decide +kernel⟩
abbrev s_Books___init__ : Stmt := inClass (topS 26) 0
abbrev N_Books___init__ : List Str := ["self"]
theorem sc_Books___init__ : FnScope N_Books___init__ ["self"] (defScope s_Books___init__) := ⟨rfl, rfl, rfl, by decide +kernel, rfl, by decide +kernel, by decide +kernel⟩
abbrev s_Books_put : Stmt := inClass (topS 26) 1
abbrev N_Books_put : List Str := ["self", "shelf", "name", "thing"]
theorem sc_Books_put : FnScope N_Books_put ["self", "shelf", "name", "thing"] (defScope s_Books_put) := ⟨rfl, rfl, rfl, by decide +kernel, rfl, by decide +kernel, by decide +kernel⟩
abbrev s_Books_undo_to : Stmt := inClass (topS 26) 2
abbrev N_Books_undo_to : List Str := ["self", "mark", "shelf", "name", "before"]
theorem sc_Books_undo_to : FnScope N_Books_undo_to ["self", "mark"] (defScope s_Books_undo_to) := ⟨rfl, rfl, rfl, by decide +kernel, rfl, by decide +kernel, by decide +kernel⟩
abbrev s_Books_has_member : Stmt := inClass (topS 26) 3
abbrev N_Books_has_member : List Str := ["self", "name"]
theorem sc_Books_has_member : FnScope N_Books_has_member ["self", "name"] (defScope s_Books_has_member) := ⟨rfl, rfl, rfl, by decide +kernel, rfl, by decide +kernel, by decide +kernel⟩
abbrev s_Books_has_table : Stmt := inClass (topS 26) 4
abbrev N_Books_has_table : List Str := ["self", "circle"]
theorem sc_Books_has_table : FnScope N_Books_has_table ["self", "circle"] (defScope s_Books_has_table) := ⟨rfl, rfl, rfl, by decide +kernel, rfl, by decide +kernel, by decide +kernel⟩
abbrev s_Books_purse_of : Stmt := inClass (topS 26) 5
abbrev N_Books_purse_of : List Str := ["self", "name"]
theorem sc_Books_purse_of : FnScope N_Books_purse_of ["self", "name"] (defScope s_Books_purse_of) := ⟨rfl, rfl, rfl, by decide +kernel, rfl, by decide +kernel, by decide +kernel⟩
abbrev s_Books_table_of : Stmt := inClass (topS 26) 6
abbrev N_Books_table_of : List Str := ["self", "circle"]
theorem sc_Books_table_of : FnScope N_Books_table_of ["self", "circle"] (defScope s_Books_table_of) := ⟨rfl, rfl, rfl, by decide +kernel, rfl, by decide +kernel, by decide +kernel⟩
abbrev s_Books_brought : Stmt := inClass (topS 26) 7
abbrev N_Books_brought : List Str := ["self"]
theorem sc_Books_brought : FnScope N_Books_brought ["self"] (defScope s_Books_brought) := ⟨rfl, rfl, rfl, by decide +kernel, rfl, by decide +kernel, by decide +kernel⟩
abbrev s_Books_member_names : Stmt := inClass (topS 26) 8
abbrev N_Books_member_names : List Str := ["self", "people"]
theorem sc_Books_member_names : FnScope N_Books_member_names ["self"] (defScope s_Books_member_names) := ⟨rfl, rfl, rfl, by decide +kernel, rfl, by decide +kernel, by decide +kernel⟩
abbrev s_Books_table_names : Stmt := inClass (topS 26) 9
abbrev N_Books_table_names : List Str := ["self"]
theorem sc_Books_table_names : FnScope N_Books_table_names ["self"] (defScope s_Books_table_names) := ⟨rfl, rfl, rfl, by decide +kernel, rfl, by decide +kernel, by decide +kernel⟩
abbrev s_Books_all_tables : Stmt := inClass (topS 26) 10
abbrev N_Books_all_tables : List Str := ["self"]
theorem sc_Books_all_tables : FnScope N_Books_all_tables ["self"] (defScope s_Books_all_tables) := ⟨rfl, rfl, rfl, by decide +kernel, rfl, by decide +kernel, by decide +kernel⟩
abbrev s_Books_add_member : Stmt := inClass (topS 26) 11
abbrev N_Books_add_member : List Str := ["self", "name"]
theorem sc_Books_add_member : FnScope N_Books_add_member ["self", "name"] (defScope s_Books_add_member) := ⟨rfl, rfl, rfl, by decide +kernel, rfl, by decide +kernel, by decide +kernel⟩
abbrev s_Books_drop_member : Stmt := inClass (topS 26) 12
abbrev N_Books_drop_member : List Str := ["self", "name"]
theorem sc_Books_drop_member : FnScope N_Books_drop_member ["self", "name"] (defScope s_Books_drop_member) := ⟨rfl, rfl, rfl, by decide +kernel, rfl, by decide +kernel, by decide +kernel⟩
abbrev s_Books_put_table : Stmt := inClass (topS 26) 13
abbrev N_Books_put_table : List Str := ["self", "circle", "table"]
theorem sc_Books_put_table : FnScope N_Books_put_table ["self", "circle", "table"] (defScope s_Books_put_table) := ⟨rfl, rfl, rfl, by decide +kernel, rfl, by decide +kernel, by decide +kernel⟩
abbrev s_Books_add_coins : Stmt := inClass (topS 26) 14
abbrev N_Books_add_coins : List Str := ["self", "name", "coins", "number", "held"]
theorem sc_Books_add_coins : FnScope N_Books_add_coins ["self", "name", "coins"] (defScope s_Books_add_coins) := ⟨rfl, rfl, rfl, by decide +kernel, rfl, by decide +kernel, by decide +kernel⟩
abbrev s_Books_add_brought : Stmt := inClass (topS 26) 15
abbrev N_Books_add_brought : List Str := ["self", "coins"]
theorem sc_Books_add_brought : FnScope N_Books_add_brought ["self", "coins"] (defScope s_Books_add_brought) := ⟨rfl, rfl, rfl, by decide +kernel, rfl, by decide +kernel, by decide +kernel⟩
abbrev s_Books_refuse_short : Stmt := inClass (topS 26) 16
abbrev N_Books_refuse_short : List Str := ["self", "name", "coins"]
theorem sc_Books_refuse_short : FnScope N_Books_refuse_short ["self", "name", "coins"] (defScope s_Books_refuse_short) := ⟨rfl, rfl, rfl, by decide +kernel, rfl, by decide +kernel, by decide +kernel⟩
abbrev s_Books_twin : Stmt := inClass (topS 26) 17
abbrev N_Books_twin : List Str := ["self", "other"]
theorem sc_Books_twin : FnScope N_Books_twin ["self"] (defScope s_Books_twin) := ⟨rfl, rfl, rfl, by decide +kernel, rfl, by decide +kernel, by decide +kernel⟩
abbrev s_set_down : Stmt := topS 27
abbrev N_set_down : List Str := ["shelf", "name", "thing"]
theorem sc_set_down : FnScope N_set_down ["shelf", "name", "thing"] (defScope s_set_down) := ⟨rfl, rfl, rfl, by decide +kernel, rfl, by decide +kernel, by decide +kernel⟩
abbrev s_first_covered : Stmt := topS 29
abbrev N_first_covered : List Str := ["stake", "seats", "pledge"]
theorem sc_first_covered : FnScope N_first_covered ["stake", "seats", "pledge"] (defScope s_first_covered) := ⟨rfl, rfl, rfl, by decide +kernel, rfl, by decide +kernel, by decide +kernel⟩
abbrev s_is_covered : Stmt := topS 30
abbrev N_is_covered : List Str := ["stake", "seats", "pledge", "turn"]
theorem sc_is_covered : FnScope N_is_covered ["stake", "seats", "pledge", "turn"] (defScope s_is_covered) := ⟨rfl, rfl, rfl, by decide +kernel, rfl, by decide +kernel, by decide +kernel⟩
abbrev s_within : Stmt := topS 31
abbrev N_within : List Str := ["windows", "a", "b", "at", "first", "last"]
theorem sc_within : FnScope N_within ["windows", "a", "b"] (defScope s_within) := ⟨rfl, rfl, rfl, by decide +kernel, rfl, by decide +kernel, by decide +kernel⟩
abbrev s_order_or_bar : Stmt := topS 32
abbrev N_order_or_bar : List Str := ["windows", "row", "a", "b"]
theorem sc_order_or_bar : FnScope N_order_or_bar ["windows"] (defScope s_order_or_bar) := ⟨rfl, rfl, rfl, by decide +kernel, rfl, by decide +kernel, by decide +kernel⟩
abbrev s_told_order : Stmt := topS 33
abbrev N_told_order : List Str := ["windows", "free", "row", "turn", "ready", "chosen", "at"]
theorem sc_told_order : FnScope N_told_order ["windows"] (defScope s_told_order) := ⟨rfl, rfl, rfl, by decide +kernel, rfl, by decide +kernel, by decide +kernel⟩
abbrev s_fullest_span : Stmt := topS 34
abbrev N_fullest_span : List Str := ["windows", "turns", "spans", "a", "b"]
theorem sc_fullest_span : FnScope N_fullest_span ["windows"] (defScope s_fullest_span) := ⟨rfl, rfl, rfl, by decide +kernel, rfl, by decide +kernel, by decide +kernel⟩
abbrev s_surplus : Stmt := topS 35
abbrev N_surplus : List Str := ["windows", "a", "b"]
theorem sc_surplus : FnScope N_surplus ["windows", "a", "b"] (defScope s_surplus) := ⟨rfl, rfl, rfl, by decide +kernel, rfl, by decide +kernel, by decide +kernel⟩
abbrev s_rounds_between : Stmt := topS 36
abbrev N_rounds_between : List Str := ["a", "b"]
theorem sc_rounds_between : FnScope N_rounds_between ["a", "b"] (defScope s_rounds_between) := ⟨rfl, rfl, rfl, by decide +kernel, rfl, by decide +kernel, by decide +kernel⟩
abbrev s_Seat___init__ : Stmt := inClass (topS 45) 0
abbrev N_Seat___init__ : List Str := ["self", "pledge"]
theorem sc_Seat___init__ : FnScope N_Seat___init__ ["self", "pledge"] (defScope s_Seat___init__) := ⟨rfl, rfl, rfl, by decide +kernel, rfl, by decide +kernel, by decide +kernel⟩
abbrev s_Seat_twin : Stmt := inClass (topS 45) 1
abbrev N_Seat_twin : List Str := ["self", "other"]
theorem sc_Seat_twin : FnScope N_Seat_twin ["self"] (defScope s_Seat_twin) := ⟨rfl, rfl, rfl, by decide +kernel, rfl, by decide +kernel, by decide +kernel⟩
abbrev s_Circle___init__ : Stmt := inClass (topS 46) 0
abbrev N_Circle___init__ : List Str := ["self", "stake", "pledges", "wishes", "bidding", "pledge"]
theorem sc_Circle___init__ : FnScope N_Circle___init__ ["self", "stake", "pledges", "wishes", "bidding"] (defScope s_Circle___init__) := ⟨rfl, rfl, rfl, by decide +kernel, rfl, by decide +kernel, by decide +kernel⟩
abbrev s_Circle_turn : Stmt := inClass (topS 46) 1
abbrev N_Circle_turn : List Str := ["self"]
theorem sc_Circle_turn : FnScope N_Circle_turn ["self"] (defScope s_Circle_turn) := ⟨rfl, rfl, rfl, by decide +kernel, rfl, by decide +kernel, by decide +kernel⟩
abbrev s_Circle_ended : Stmt := inClass (topS 46) 2
abbrev N_Circle_ended : List Str := ["self"]
theorem sc_Circle_ended : FnScope N_Circle_ended ["self"] (defScope s_Circle_ended) := ⟨rfl, rfl, rfl, by decide +kernel, rfl, by decide +kernel, by decide +kernel⟩
abbrev s_Circle_queue : Stmt := inClass (topS 46) 3
abbrev N_Circle_queue : List Str := ["self"]
theorem sc_Circle_queue : FnScope N_Circle_queue ["self"] (defScope s_Circle_queue) := ⟨rfl, rfl, rfl, by decide +kernel, rfl, by decide +kernel, by decide +kernel⟩
abbrev s_Circle_rests : Stmt := inClass (topS 46) 4
abbrev N_Circle_rests : List Str := ["self"]
theorem sc_Circle_rests : FnScope N_Circle_rests ["self"] (defScope s_Circle_rests) := ⟨rfl, rfl, rfl, by decide +kernel, rfl, by decide +kernel, by decide +kernel⟩
abbrev s_Circle_box : Stmt := inClass (topS 46) 5
abbrev N_Circle_box : List Str := ["self"]
theorem sc_Circle_box : FnScope N_Circle_box ["self"] (defScope s_Circle_box) := ⟨rfl, rfl, rfl, by decide +kernel, rfl, by decide +kernel, by decide +kernel⟩
abbrev s_Circle_pot : Stmt := inClass (topS 46) 6
abbrev N_Circle_pot : List Str := ["self"]
theorem sc_Circle_pot : FnScope N_Circle_pot ["self"] (defScope s_Circle_pot) := ⟨rfl, rfl, rfl, by decide +kernel, rfl, by decide +kernel, by decide +kernel⟩
abbrev s_Circle_seat : Stmt := inClass (topS 46) 7
abbrev N_Circle_seat : List Str := ["self", "at", "seat"]
theorem sc_Circle_seat : FnScope N_Circle_seat ["self", "at"] (defScope s_Circle_seat) := ⟨rfl, rfl, rfl, by decide +kernel, rfl, by decide +kernel, by decide +kernel⟩
abbrev s_Circle_expected : Stmt := inClass (topS 46) 9
abbrev N_Circle_expected : List Str := ["self", "at", "seat"]
theorem sc_Circle_expected : FnScope N_Circle_expected ["self", "at"] (defScope s_Circle_expected) := ⟨rfl, rfl, rfl, by decide +kernel, rfl, by decide +kernel, by decide +kernel⟩
abbrev s_Circle_close : Stmt := inClass (topS 46) 11
abbrev N_Circle_close : List Str := ["self", "paid", "bids", "standing", "fallen", "pledged", "payers", "result", "report", "now", "before"]
theorem sc_Circle_close : FnScope N_Circle_close ["self", "paid", "bids"] (defScope s_Circle_close) := ⟨rfl, rfl, rfl, by decide +kernel, rfl, by decide +kernel, by decide +kernel⟩
abbrev s_Circle_lay : Stmt := inClass (topS 46) 12
abbrev N_Circle_lay : List Str := ["self", "at", "coins", "seat"]
theorem sc_Circle_lay : FnScope N_Circle_lay ["self", "at", "coins"] (defScope s_Circle_lay) := ⟨rfl, rfl, rfl, by decide +kernel, rfl, by decide +kernel, by decide +kernel⟩
abbrev s_Circle_swap : Stmt := inClass (topS 46) 13
abbrev N_Circle_swap : List Str := ["self", "at", "other", "states", "place", "place_of_other"]
theorem sc_Circle_swap : FnScope N_Circle_swap ["self", "at", "other"] (defScope s_Circle_swap) := ⟨rfl, rfl, rfl, by decide +kernel, rfl, by decide +kernel, by decide +kernel⟩
abbrev s_Circle_refunds : Stmt := inClass (topS 46) 14
abbrev N_Circle_refunds : List Str := ["self", "seat"]
theorem sc_Circle_refunds : FnScope N_Circle_refunds ["self"] (defScope s_Circle_refunds) := ⟨rfl, rfl, rfl, by decide +kernel, rfl, by decide +kernel, by decide +kernel⟩
abbrev s_Circle_twin : Stmt := inClass (topS 46) 15
abbrev N_Circle_twin : List Str := ["self", "other", "seat"]
theorem sc_Circle_twin : FnScope N_Circle_twin ["self"] (defScope s_Circle_twin) := ⟨rfl, rfl, rfl, by decide +kernel, rfl, by decide +kernel, by decide +kernel⟩
abbrev s_Circle_seat_at : Stmt := inClass (topS 46) 16
abbrev N_Circle_seat_at : List Str := ["self", "at"]
theorem sc_Circle_seat_at : FnScope N_Circle_seat_at ["self", "at"] (defScope s_Circle_seat_at) := ⟨rfl, rfl, rfl, by decide +kernel, rfl, by decide +kernel, by decide +kernel⟩
abbrev s_Circle_seats_of : Stmt := inClass (topS 46) 17
abbrev N_Circle_seats_of : List Str := ["self", "numbers", "at"]
theorem sc_Circle_seats_of : FnScope N_Circle_seats_of ["self", "numbers"] (defScope s_Circle_seats_of) := ⟨rfl, rfl, rfl, by decide +kernel, rfl, by decide +kernel, by decide +kernel⟩
abbrev s_Circle_covers : Stmt := inClass (topS 46) 18
abbrev N_Circle_covers : List Str := ["self", "at", "turn"]
theorem sc_Circle_covers : FnScope N_Circle_covers ["self", "at", "turn"] (defScope s_Circle_covers) := ⟨rfl, rfl, rfl, by decide +kernel, rfl, by decide +kernel, by decide +kernel⟩
abbrev s_Circle_standings : Stmt := inClass (topS 46) 19
abbrev N_Circle_standings : List Str := ["self", "seat"]
theorem sc_Circle_standings : FnScope N_Circle_standings ["self"] (defScope s_Circle_standings) := ⟨rfl, rfl, rfl, by decide +kernel, rfl, by decide +kernel, by decide +kernel⟩
abbrev s_Circle_unpaid : Stmt := inClass (topS 46) 20
abbrev N_Circle_unpaid : List Str := ["self", "state", "paid", "at", "seat"]
theorem sc_Circle_unpaid : FnScope N_Circle_unpaid ["self", "state", "paid"] (defScope s_Circle_unpaid) := ⟨rfl, rfl, rfl, by decide +kernel, rfl, by decide +kernel, by decide +kernel⟩
abbrev s_Circle_refuse_lists : Stmt := inClass (topS 46) 21
abbrev N_Circle_refuse_lists : List Str := ["self", "paid", "bids", "coins"]
theorem sc_Circle_refuse_lists : FnScope N_Circle_refuse_lists ["self", "paid", "bids"] (defScope s_Circle_refuse_lists) := ⟨rfl, rfl, rfl, by decide +kernel, rfl, by decide +kernel, by decide +kernel⟩
abbrev s_Circle_let_fall : Stmt := inClass (topS 46) 22
abbrev N_Circle_let_fall : List Str := ["self", "fallen", "at"]
theorem sc_Circle_let_fall : FnScope N_Circle_let_fall ["self", "fallen"] (defScope s_Circle_let_fall) := ⟨rfl, rfl, rfl, by decide +kernel, rfl, by decide +kernel, by decide +kernel⟩
abbrev s_Circle_leave_queue : Stmt := inClass (topS 46) 23
abbrev N_Circle_leave_queue : List Str := ["self", "at", "state", "seat"]
theorem sc_Circle_leave_queue : FnScope N_Circle_leave_queue ["self", "at", "state"] (defScope s_Circle_leave_queue) := ⟨rfl, rfl, rfl, by decide +kernel, rfl, by decide +kernel, by decide +kernel⟩
abbrev s_Circle_charge_pledges : Stmt := inClass (topS 46) 24
abbrev N_Circle_charge_pledges : List Str := ["self", "pledged", "seat"]
theorem sc_Circle_charge_pledges : FnScope N_Circle_charge_pledges ["self", "pledged"] (defScope s_Circle_charge_pledges) := ⟨rfl, rfl, rfl, by decide +kernel, rfl, by decide +kernel, by decide +kernel⟩
abbrev s_Circle_collect : Stmt := inClass (topS 46) 25
abbrev N_Circle_collect : List Str := ["self", "seat", "payers", "at"]
theorem sc_Circle_collect : FnScope N_Circle_collect ["self"] (defScope s_Circle_collect) := ⟨rfl, rfl, rfl, by decide +kernel, rfl, by decide +kernel, by decide +kernel⟩
abbrev s_Circle_rest : Stmt := inClass (topS 46) 26
abbrev N_Circle_rest : List Str := ["self", "payers"]
theorem sc_Circle_rest : FnScope N_Circle_rest ["self", "payers"] (defScope s_Circle_rest) := ⟨rfl, rfl, rfl, by decide +kernel, rfl, by decide +kernel, by decide +kernel⟩
abbrev s_Circle_draw : Stmt := inClass (topS 46) 27
abbrev N_Circle_draw : List Str := ["self", "payers", "bids", "drawer", "bid", "others", "share", "coins", "winner", "seat", "at"]
theorem sc_Circle_draw : FnScope N_Circle_draw ["self", "payers", "bids"] (defScope s_Circle_draw) := ⟨rfl, rfl, rfl, by decide +kernel, rfl, by decide +kernel, by decide +kernel⟩
abbrev s_Circle_best_bid : Stmt := inClass (topS 46) 28
abbrev N_Circle_best_bid : List Str := ["self", "bids", "counting", "best", "at"]
theorem sc_Circle_best_bid : FnScope N_Circle_best_bid ["self", "bids"] (defScope s_Circle_best_bid) := ⟨rfl, rfl, rfl, by decide +kernel, rfl, by decide +kernel, by decide +kernel⟩
abbrev s_refuse_opening : Stmt := topS 47
abbrev N_refuse_opening : List Str := ["stake", "pledges", "wishes", "many", "pledge", "wish"]
theorem sc_refuse_opening : FnScope N_refuse_opening ["stake", "pledges", "wishes"] (defScope s_refuse_opening) := ⟨rfl, rfl, rfl, by decide +kernel, rfl, by decide +kernel, by decide +kernel⟩
abbrev s_first_queue : Stmt := topS 48
abbrev N_first_queue : List Str := ["stake", "pledges", "wishes", "windows", "paper", "pledge", "wish"]
theorem sc_first_queue : FnScope N_first_queue ["stake", "pledges", "wishes"] (defScope s_first_queue) := ⟨rfl, rfl, rfl, by decide +kernel, rfl, by decide +kernel, by decide +kernel⟩
abbrev s_is_name : Stmt := topS 52
abbrev N_is_name : List Str := ["text", "sign"]
theorem sc_is_name : FnScope N_is_name ["text"] (defScope s_is_name) := ⟨rfl, rfl, rfl, by decide +kernel, rfl, by decide +kernel, by decide +kernel⟩
abbrev s_Table___init__ : Stmt := inClass (topS 54) 0
abbrev N_Table___init__ : List Str := ["self", "sitters", "circle", "payments", "offers", "closed"]
theorem sc_Table___init__ : FnScope N_Table___init__ ["self", "sitters", "circle", "payments", "offers", "closed"] (defScope s_Table___init__) := ⟨rfl, rfl, rfl, by decide +kernel, rfl, by decide +kernel, by decide +kernel⟩
abbrev s_Table_seat_of : Stmt := inClass (topS 54) 1
abbrev N_Table_seat_of : List Str := ["self", "name"]
theorem sc_Table_seat_of : FnScope N_Table_seat_of ["self", "name"] (defScope s_Table_seat_of) := ⟨rfl, rfl, rfl, by decide +kernel, rfl, by decide +kernel, by decide +kernel⟩
abbrev s_Table_state_of : Stmt := inClass (topS 54) 2
abbrev N_Table_state_of : List Str := ["self", "at"]
theorem sc_Table_state_of : FnScope N_Table_state_of ["self", "at"] (defScope s_Table_state_of) := ⟨rfl, rfl, rfl, by decide +kernel, rfl, by decide +kernel, by decide +kernel⟩
abbrev s_Table_with_payment : Stmt := inClass (topS 54) 3
abbrev N_Table_with_payment : List Str := ["self", "at", "payments", "k", "paid"]
theorem sc_Table_with_payment : FnScope N_Table_with_payment ["self", "at"] (defScope s_Table_with_payment) := ⟨rfl, rfl, rfl, by decide +kernel, rfl, by decide +kernel, by decide +kernel⟩
abbrev s_Table_with_offer : Stmt := inClass (topS 54) 4
abbrev N_Table_with_offer : List Str := ["self", "at", "coins", "offers", "k", "offer"]
theorem sc_Table_with_offer : FnScope N_Table_with_offer ["self", "at", "coins"] (defScope s_Table_with_offer) := ⟨rfl, rfl, rfl, by decide +kernel, rfl, by decide +kernel, by decide +kernel⟩
abbrev s_Table_with_circle : Stmt := inClass (topS 54) 5
abbrev N_Table_with_circle : List Str := ["self", "circle"]
theorem sc_Table_with_circle : FnScope N_Table_with_circle ["self", "circle"] (defScope s_Table_with_circle) := ⟨rfl, rfl, rfl, by decide +kernel, rfl, by decide +kernel, by decide +kernel⟩
abbrev s_Table_behind_round : Stmt := inClass (topS 54) 6
abbrev N_Table_behind_round : List Str := ["self", "circle", "report"]
theorem sc_Table_behind_round : FnScope N_Table_behind_round ["self", "circle", "report"] (defScope s_Table_behind_round) := ⟨rfl, rfl, rfl, by decide +kernel, rfl, by decide +kernel, by decide +kernel⟩
abbrev s_Table_told_reports : Stmt := inClass (topS 54) 7
abbrev N_Table_told_reports : List Str := ["self", "report"]
theorem sc_Table_told_reports : FnScope N_Table_told_reports ["self"] (defScope s_Table_told_reports) := ⟨rfl, rfl, rfl, by decide +kernel, rfl, by decide +kernel, by decide +kernel⟩
abbrev s_Table_holdings : Stmt := inClass (topS 54) 8
abbrev N_Table_holdings : List Str := ["self", "pledges", "at"]
theorem sc_Table_holdings : FnScope N_Table_holdings ["self"] (defScope s_Table_holdings) := ⟨rfl, rfl, rfl, by decide +kernel, rfl, by decide +kernel, by decide +kernel⟩
abbrev s_Table_payouts : Stmt := inClass (topS 54) 9
abbrev N_Table_payouts : List Str := ["self", "drawer", "coins", "share", "gains", "at", "gain", "refund"]
theorem sc_Table_payouts : FnScope N_Table_payouts ["self"] (defScope s_Table_payouts) := ⟨rfl, rfl, rfl, by decide +kernel, rfl, by decide +kernel, by decide +kernel⟩
abbrev s_opened_table : Stmt := topS 55
abbrev N_opened_table : List Str := ["sitters", "circle", "closed"]
theorem sc_opened_table : FnScope N_opened_table ["sitters", "circle", "closed"] (defScope s_opened_table) := ⟨rfl, rfl, rfl, by decide +kernel, rfl, by decide +kernel, by decide +kernel⟩
abbrev s_report_copy : Stmt := topS 56
abbrev N_report_copy : List Str := ["report"]
theorem sc_report_copy : FnScope N_report_copy ["report"] (defScope s_report_copy) := ⟨rfl, rfl, rfl, by decide +kernel, rfl, by decide +kernel, by decide +kernel⟩
abbrev s_enter : Stmt := topS 58
abbrev N_enter : List Str := ["books", "name"]
theorem sc_enter : FnScope N_enter ["books", "name"] (defScope s_enter) := ⟨rfl, rfl, rfl, by decide +kernel, rfl, by decide +kernel, by decide +kernel⟩
abbrev s_part : Stmt := topS 59
abbrev N_part : List Str := ["books", "name", "coins", "table"]
theorem sc_part : FnScope N_part ["books", "name"] (defScope s_part) := ⟨rfl, rfl, rfl, by decide +kernel, rfl, by decide +kernel, by decide +kernel⟩
abbrev s_bring : Stmt := topS 60
abbrev N_bring : List Str := ["books", "name", "coins"]
theorem sc_bring : FnScope N_bring ["books", "name", "coins"] (defScope s_bring) := ⟨rfl, rfl, rfl, by decide +kernel, rfl, by decide +kernel, by decide +kernel⟩
abbrev s_take : Stmt := topS 61
abbrev N_take : List Str := ["books", "name", "coins"]
theorem sc_take : FnScope N_take ["books", "name", "coins"] (defScope s_take) := ⟨rfl, rfl, rfl, by decide +kernel, rfl, by decide +kernel, by decide +kernel⟩
abbrev s_found : Stmt := topS 62
abbrev N_found : List Str := ["books", "circle", "stake", "bidding", "seats", "sitters", "name", "opening", "pledge", "wish", "seat"]
theorem sc_found : FnScope N_found ["books", "circle", "stake", "bidding", "seats"] (defScope s_found) := ⟨rfl, rfl, rfl, by decide +kernel, rfl, by decide +kernel, by decide +kernel⟩
abbrev s_pay : Stmt := topS 63
abbrev N_pay : List Str := ["books", "circle", "name", "table", "at"]
theorem sc_pay : FnScope N_pay ["books", "circle", "name"] (defScope s_pay) := ⟨rfl, rfl, rfl, by decide +kernel, rfl, by decide +kernel, by decide +kernel⟩
abbrev s_bid : Stmt := topS 64
abbrev N_bid : List Str := ["books", "circle", "name", "coins", "table", "at"]
theorem sc_bid : FnScope N_bid ["books", "circle", "name", "coins"] (defScope s_bid) := ⟨rfl, rfl, rfl, by decide +kernel, rfl, by decide +kernel, by decide +kernel⟩
abbrev s_lay : Stmt := topS 65
abbrev N_lay : List Str := ["books", "circle", "name", "coins", "table", "after"]
theorem sc_lay : FnScope N_lay ["books", "circle", "name", "coins"] (defScope s_lay) := ⟨rfl, rfl, rfl, by decide +kernel, rfl, by decide +kernel, by decide +kernel⟩
abbrev s_swap : Stmt := topS 66
abbrev N_swap : List Str := ["books", "circle", "name", "other", "table", "after"]
theorem sc_swap : FnScope N_swap ["books", "circle", "name", "other"] (defScope s_swap) := ⟨rfl, rfl, rfl, by decide +kernel, rfl, by decide +kernel, by decide +kernel⟩
abbrev s_close : Stmt := topS 67
abbrev N_close : List Str := ["books", "circle", "table", "after", "report", "next_table", "name", "coins"]
theorem sc_close : FnScope N_close ["books", "circle"] (defScope s_close) := ⟨rfl, rfl, rfl, by decide +kernel, rfl, by decide +kernel, by decide +kernel⟩
abbrev s_refuse_ended : Stmt := topS 68
abbrev N_refuse_ended : List Str := ["table"]
theorem sc_refuse_ended : FnScope N_refuse_ended ["table"] (defScope s_refuse_ended) := ⟨rfl, rfl, rfl, by decide +kernel, rfl, by decide +kernel, by decide +kernel⟩
abbrev s_refuse_beyond : Stmt := topS 69
abbrev N_refuse_beyond : List Str := ["coins", "least", "most"]
theorem sc_refuse_beyond : FnScope N_refuse_beyond ["coins", "least", "most"] (defScope s_refuse_beyond) := ⟨rfl, rfl, rfl, by decide +kernel, rfl, by decide +kernel, by decide +kernel⟩
abbrev s_done : Stmt := topS 71
abbrev N_done : List Str := ["books", "row", "action", "rest"]
theorem sc_done : FnScope N_done ["books", "row"] (defScope s_done) := ⟨rfl, rfl, rfl, by decide +kernel, rfl, by decide +kernel, by decide +kernel⟩
abbrev s_House___init__ : Stmt := inClass (topS 73) 0
abbrev N_House___init__ : List Str := ["self"]
theorem sc_House___init__ : FnScope N_House___init__ ["self"] (defScope s_House___init__) := ⟨rfl, rfl, rfl, by decide +kernel, rfl, by decide +kernel, by decide +kernel⟩
abbrev s_House_enter : Stmt := inClass (topS 73) 1
abbrev N_House_enter : List Str := ["self", "name"]
theorem sc_House_enter : FnScope N_House_enter ["self", "name"] (defScope s_House_enter) := ⟨rfl, rfl, rfl, by decide +kernel, rfl, by decide +kernel, by decide +kernel⟩
abbrev s_House_part : Stmt := inClass (topS 73) 2
abbrev N_House_part : List Str := ["self", "name"]
theorem sc_House_part : FnScope N_House_part ["self", "name"] (defScope s_House_part) := ⟨rfl, rfl, rfl, by decide +kernel, rfl, by decide +kernel, by decide +kernel⟩
abbrev s_House_bring : Stmt := inClass (topS 73) 3
abbrev N_House_bring : List Str := ["self", "name", "coins"]
theorem sc_House_bring : FnScope N_House_bring ["self", "name", "coins"] (defScope s_House_bring) := ⟨rfl, rfl, rfl, by decide +kernel, rfl, by decide +kernel, by decide +kernel⟩
abbrev s_House_take : Stmt := inClass (topS 73) 4
abbrev N_House_take : List Str := ["self", "name", "coins"]
theorem sc_House_take : FnScope N_House_take ["self", "name", "coins"] (defScope s_House_take) := ⟨rfl, rfl, rfl, by decide +kernel, rfl, by decide +kernel, by decide +kernel⟩
abbrev s_House_found : Stmt := inClass (topS 73) 5
abbrev N_House_found : List Str := ["self", "circle", "stake", "bidding", "seats"]
theorem sc_House_found : FnScope N_House_found ["self", "circle", "stake", "bidding", "seats"] (defScope s_House_found) := ⟨rfl, rfl, rfl, by decide +kernel, rfl, by decide +kernel, by decide +kernel⟩
abbrev s_House_pay : Stmt := inClass (topS 73) 6
abbrev N_House_pay : List Str := ["self", "circle", "name"]
theorem sc_House_pay : FnScope N_House_pay ["self", "circle", "name"] (defScope s_House_pay) := ⟨rfl, rfl, rfl, by decide +kernel, rfl, by decide +kernel, by decide +kernel⟩
abbrev s_House_bid : Stmt := inClass (topS 73) 7
abbrev N_House_bid : List Str := ["self", "circle", "name", "coins"]
theorem sc_House_bid : FnScope N_House_bid ["self", "circle", "name", "coins"] (defScope s_House_bid) := ⟨rfl, rfl, rfl, by decide +kernel, rfl, by decide +kernel, by decide +kernel⟩
abbrev s_House_lay : Stmt := inClass (topS 73) 8
abbrev N_House_lay : List Str := ["self", "circle", "name", "coins"]
theorem sc_House_lay : FnScope N_House_lay ["self", "circle", "name", "coins"] (defScope s_House_lay) := ⟨rfl, rfl, rfl, by decide +kernel, rfl, by decide +kernel, by decide +kernel⟩
abbrev s_House_swap : Stmt := inClass (topS 73) 9
abbrev N_House_swap : List Str := ["self", "circle", "name", "other"]
theorem sc_House_swap : FnScope N_House_swap ["self", "circle", "name", "other"] (defScope s_House_swap) := ⟨rfl, rfl, rfl, by decide +kernel, rfl, by decide +kernel, by decide +kernel⟩
abbrev s_House_close : Stmt := inClass (topS 73) 10
abbrev N_House_close : List Str := ["self", "circle"]
theorem sc_House_close : FnScope N_House_close ["self", "circle"] (defScope s_House_close) := ⟨rfl, rfl, rfl, by decide +kernel, rfl, by decide +kernel, by decide +kernel⟩
abbrev s_House_deed : Stmt := inClass (topS 73) 11
abbrev N_House_deed : List Str := ["self", "row", "told"]
theorem sc_House_deed : FnScope N_House_deed ["self", "row"] (defScope s_House_deed) := ⟨rfl, rfl, rfl, by decide +kernel, rfl, by decide +kernel, by decide +kernel⟩
abbrev s_House_back : Stmt := inClass (topS 73) 12
abbrev N_House_back : List Str := ["self", "row", "mark"]
theorem sc_House_back : FnScope N_House_back ["self"] (defScope s_House_back) := ⟨rfl, rfl, rfl, by decide +kernel, rfl, by decide +kernel, by decide +kernel⟩
abbrev s_House_again : Stmt := inClass (topS 73) 13
abbrev N_House_again : List Str := ["self"]
theorem sc_House_again : FnScope N_House_again ["self"] (defScope s_House_again) := ⟨rfl, rfl, rfl, by decide +kernel, rfl, by decide +kernel, by decide +kernel⟩
abbrev s_House_members : Stmt := inClass (topS 73) 15
abbrev N_House_members : List Str := ["self"]
theorem sc_House_members : FnScope N_House_members ["self"] (defScope s_House_members) := ⟨rfl, rfl, rfl, by decide +kernel, rfl, by decide +kernel, by decide +kernel⟩
abbrev s_House_purse : Stmt := inClass (topS 73) 16
abbrev N_House_purse : List Str := ["self", "name"]
theorem sc_House_purse : FnScope N_House_purse ["self", "name"] (defScope s_House_purse) := ⟨rfl, rfl, rfl, by decide +kernel, rfl, by decide +kernel, by decide +kernel⟩
abbrev s_House_circles : Stmt := inClass (topS 73) 17
abbrev N_House_circles : List Str := ["self"]
theorem sc_House_circles : FnScope N_House_circles ["self"] (defScope s_House_circles) := ⟨rfl, rfl, rfl, by decide +kernel, rfl, by decide +kernel, by decide +kernel⟩
abbrev s_House_names : Stmt := inClass (topS 73) 18
abbrev N_House_names : List Str := ["self", "circle"]
theorem sc_House_names : FnScope N_House_names ["self", "circle"] (defScope s_House_names) := ⟨rfl, rfl, rfl, by decide +kernel, rfl, by decide +kernel, by decide +kernel⟩
abbrev s_House_turn : Stmt := inClass (topS 73) 19
abbrev N_House_turn : List Str := ["self", "circle"]
theorem sc_House_turn : FnScope N_House_turn ["self", "circle"] (defScope s_House_turn) := ⟨rfl, rfl, rfl, by decide +kernel, rfl, by decide +kernel, by decide +kernel⟩
abbrev s_House_rests : Stmt := inClass (topS 73) 20
abbrev N_House_rests : List Str := ["self", "circle"]
theorem sc_House_rests : FnScope N_House_rests ["self", "circle"] (defScope s_House_rests) := ⟨rfl, rfl, rfl, by decide +kernel, rfl, by decide +kernel, by decide +kernel⟩
abbrev s_House_queue : Stmt := inClass (topS 73) 21
abbrev N_House_queue : List Str := ["self", "circle", "table", "at"]
theorem sc_House_queue : FnScope N_House_queue ["self", "circle"] (defScope s_House_queue) := ⟨rfl, rfl, rfl, by decide +kernel, rfl, by decide +kernel, by decide +kernel⟩
abbrev s_House_paid : Stmt := inClass (topS 73) 22
abbrev N_House_paid : List Str := ["self", "circle", "table", "name", "paid"]
theorem sc_House_paid : FnScope N_House_paid ["self", "circle"] (defScope s_House_paid) := ⟨rfl, rfl, rfl, by decide +kernel, rfl, by decide +kernel, by decide +kernel⟩
abbrev s_House_bids : Stmt := inClass (topS 73) 23
abbrev N_House_bids : List Str := ["self", "circle"]
theorem sc_House_bids : FnScope N_House_bids ["self", "circle"] (defScope s_House_bids) := ⟨rfl, rfl, rfl, by decide +kernel, rfl, by decide +kernel, by decide +kernel⟩
abbrev s_House_reports : Stmt := inClass (topS 73) 24
abbrev N_House_reports : List Str := ["self", "circle"]
theorem sc_House_reports : FnScope N_House_reports ["self", "circle"] (defScope s_House_reports) := ⟨rfl, rfl, rfl, by decide +kernel, rfl, by decide +kernel, by decide +kernel⟩
abbrev s_House_held : Stmt := inClass (topS 73) 25
abbrev N_House_held : List Str := ["self", "circle"]
theorem sc_House_held : FnScope N_House_held ["self", "circle"] (defScope s_House_held) := ⟨rfl, rfl, rfl, by decide +kernel, rfl, by decide +kernel, by decide +kernel⟩
abbrev s_House_seat : Stmt := inClass (topS 73) 26
abbrev N_House_seat : List Str := ["self", "circle", "name", "table"]
theorem sc_House_seat : FnScope N_House_seat ["self", "circle", "name"] (defScope s_House_seat) := ⟨rfl, rfl, rfl, by decide +kernel, rfl, by decide +kernel, by decide +kernel⟩
abbrev s_House_coins : Stmt := inClass (topS 73) 27
abbrev N_House_coins : List Str := ["self", "purses", "holdings", "pledges", "tables", "boxes", "table", "k", "name", "held"]
theorem sc_House_coins : FnScope N_House_coins ["self"] (defScope s_House_coins) := ⟨rfl, rfl, rfl, by decide +kernel, rfl, by decide +kernel, by decide +kernel⟩
abbrev s_House_twin : Stmt := inClass (topS 73) 28
abbrev N_House_twin : List Str := ["self", "other"]
theorem sc_House_twin : FnScope N_House_twin ["self"] (defScope s_House_twin) := ⟨rfl, rfl, rfl, by decide +kernel, rfl, by decide +kernel, by decide +kernel⟩
abbrev s_House_keep_done : Stmt := inClass (topS 73) 29
abbrev N_House_keep_done : List Str := ["self", "row", "mark", "told"]
theorem sc_House_keep_done : FnScope N_House_keep_done ["self", "row"] (defScope s_House_keep_done) := ⟨rfl, rfl, rfl, by decide +kernel, rfl, by decide +kernel, by decide +kernel⟩
abbrev s__law_draws : Stmt := topS 75
abbrev N__law_draws : List Str := ["_law_script", "_law_many", "_law_rows", "_law_mix", "_law_cell", "_law_rest"]
theorem sc__law_draws : FnScope N__law_draws ["_law_script", "_law_many"] (defScope s__law_draws) := ⟨rfl, rfl, rfl, by decide +kernel, rfl, by decide +kernel, by decide +kernel⟩
abbrev s__law_same : Stmt := topS 76
abbrev N__law_same : List Str := ["_law_told", "_law_due_here", "_law_one", "_law_other"]
theorem sc__law_same : FnScope N__law_same ["_law_told", "_law_due_here"] (defScope s__law_same) := ⟨rfl, rfl, rfl, by decide +kernel, rfl, by decide +kernel, by decide +kernel⟩
abbrev s__law_names : Stmt := topS 77
abbrev N__law_names : List Str := ["_law_some", "_law_many", "_law_letters", "_law_rows", "_law_at", "_law_raw", "_law_size", "_law_turn", "_law_word", "_law_place", "_law_step", "_law_sign", "_law_k"]
theorem sc__law_names : FnScope N__law_names ["_law_some", "_law_many"] (defScope s__law_names) := ⟨rfl, rfl, rfl, by decide +kernel, rfl, by decide +kernel, by decide +kernel⟩
abbrev s__law_is_name : Stmt := topS 78
abbrev N__law_is_name : List Str := ["_law_word", "_law_sign"]
theorem sc__law_is_name : FnScope N__law_is_name ["_law_word"] (defScope s__law_is_name) := ⟨rfl, rfl, rfl, by decide +kernel, rfl, by decide +kernel, by decide +kernel⟩
abbrev s__law_member_deed : Stmt := topS 79
abbrev N__law_member_deed : List Str := ["_law_book", "_law_row", "_law_word", "_law_name", "_law_purses", "_law_circle", "_law_table", "_law_coins"]
theorem sc__law_member_deed : FnScope N__law_member_deed ["_law_book", "_law_row"] (defScope s__law_member_deed) := ⟨rfl, rfl, rfl, by decide +kernel, rfl, by decide +kernel, by decide +kernel⟩
abbrev s__law_table_due : Stmt := topS 80
abbrev N__law_table_due : List Str := ["_law_table", "_law_state", "_law_people", "_law_laid", "_law_bids", "_law_told", "_law_held", "_law_waits", "_law_paid", "_law_seats", "_law_rows", "_law_at", "_law_name", "_law_one", "_law_seat"]
theorem sc__law_table_due : FnScope N__law_table_due ["_law_table"] (defScope s__law_table_due) := ⟨rfl, rfl, rfl, by decide +kernel, rfl, by decide +kernel, by decide +kernel⟩
abbrev s__law_due : Stmt := topS 81
abbrev N__law_due : List Str := ["_law_book", "_law_rows", "_law_sums", "_law_purses", "_law_coins", "_law_circle", "_law_k", "_law_name", "_law_row"]
theorem sc__law_due : FnScope N__law_due ["_law_book"] (defScope s__law_due) := ⟨rfl, rfl, rfl, by decide +kernel, rfl, by decide +kernel, by decide +kernel⟩
abbrev s__law_named : Stmt := topS 82
abbrev N__law_named : List Str := ["_law_people", "_law_raw", "_law_bad"]
theorem sc__law_named : FnScope N__law_named ["_law_people", "_law_raw"] (defScope s__law_named) := ⟨rfl, rfl, rfl, by decide +kernel, rfl, by decide +kernel, by decide +kernel⟩
abbrev s__law_done : Stmt := topS 83
abbrev N__law_done : List Str := ["_law_house", "_law_row", "_law_marks_here", "_law_told", "e"]
theorem sc__law_done : FnScope N__law_done ["_law_house", "_law_row"] (defScope s__law_done) := ⟨rfl, rfl, rfl, by decide +kernel, rfl, by decide +kernel, by decide +kernel⟩
abbrev s__law_marks : Stmt := topS 84
abbrev N__law_marks : List Str := ["_law_word", "_law_words", "_law_one"]
theorem sc__law_marks : FnScope N__law_marks ["_law_word"] (defScope s__law_marks) := ⟨rfl, rfl, rfl, by decide +kernel, rfl, by decide +kernel, by decide +kernel⟩
abbrev s__law_table_seen : Stmt := topS 85
abbrev N__law_table_seen : List Str := ["_law_house", "_law_circle", "_law_people", "_law_seats", "_law_name"]
theorem sc__law_table_seen : FnScope N__law_table_seen ["_law_house", "_law_circle"] (defScope s__law_table_seen) := ⟨rfl, rfl, rfl, by decide +kernel, rfl, by decide +kernel, by decide +kernel⟩
abbrev s__law_seen : Stmt := topS 86
abbrev N__law_seen : List Str := ["_law_house", "_law_rows", "_law_purses", "_law_circle", "_law_name"]
theorem sc__law_seen : FnScope N__law_seen ["_law_house"] (defScope s__law_seen) := ⟨rfl, rfl, rfl, by decide +kernel, rfl, by decide +kernel, by decide +kernel⟩
abbrev s__law_missing : Stmt := topS 87
abbrev N__law_missing : List Str := ["_law_house", "_law_name", "_law_missed"]
theorem sc__law_missing : FnScope N__law_missing ["_law_house", "_law_name"] (defScope s__law_missing) := ⟨rfl, rfl, rfl, by decide +kernel, rfl, by decide +kernel, by decide +kernel⟩
abbrev s_law : Stmt := topS 88
abbrev N_law : List Str := ["_law_script", "_law_some", "_law_people", "_law_house", "_law_book", "_law_step", "_law_raw", "_law_other", "_law_word", "_law_row", "_law_coins", "_law_due_here", "_law_told", "_law_marks_here"]
theorem sc_law : FnScope N_law ["_law_script"] (defScope s_law) := ⟨rfl, rfl, rfl, by decide +kernel, rfl, by decide +kernel, by decide +kernel⟩
/-- a def whose code object is known by its address -/
structure FunC (K : PySem.W.Frag) (x qual : Str) (st : Stmt) (f : Addr) (fd : FuncData) (c : Addr) : Prop where
  ex : ∃ (oc : Value) (od : Option Addr) (kV doc pm : Value) (an : Option Addr) (ct : Value) (osl : Array (Option Value)),
    fd = PySem.W.fnOf x qual (defArgs st) (defBody st) (defScope st) .none kV doc pm an (.ref c) ct ∧ K.lookup f = some ⟨oc, od, .func fd, osl⟩ ∧ PySem.W.codeIn K (.ref c) qual = true
section
variable {P : Program} {w : World} {K : PySem.W.Frag} {mg : Str → Option Value} {base : Heap}
theorem FunC.ok {x qual : Str} {st : Stmt} {f c : Addr} {fd : FuncData} {N ps : List Str} {k : Nat} {sp : Sp} (F : FunC K x qual st f fd c) (S : FnScope N ps (defScope st)) (len : ∀ vs H Q E, sp vs H Q E → vs.length = ps.length)
    (hbody : ∀ (A : Around) (outer : List Env) (s : Shared) (H : Hp) (vs : List V) (Q : VK) (E : XK), Room k (A.deeper (envOfC qual (defScope st) s.heap.objs.size f (.ref c))) → sp vs H Q E →
      ∃ t, PSs (cxOf CX0 P w K mg base N qual (defScope st) f (.ref c) A outer s H E).nox (defBody st) t ∧ t { nx := fun _ H' => Q .non H', rt := Q } (start N vs) H) : FnOk P w K mg base CX0 (k + 1) f fd ps sp := by
  obtain ⟨oc, od, kV, doc, pm, an, ct, osl, rfl, lk, hcd⟩ := F.ex
  refine fn_of lk hcd S len fun A outer s H vs Q E hr hsp => ?_
  obtain ⟨t, h, q⟩ := hbody A outer s H vs Q E hr hsp
  exact ⟨t, h.nox, q⟩
theorem func_mk {x qual : Str} {st : Stmt} {f c : Addr} {oc : Value} {od an : Option Addr} {osl : Array (Option Value)} {kV doc pm cdv ct : Value} (l : K.lookup f = some ⟨oc, od, .func (PySem.W.fnOf x qual (defArgs st) (defBody st) (defScope st) .none kV doc pm an cdv ct), osl⟩)
    (h : PySem.W.codeIn K cdv qual = true) (e : cdv = .ref c) : FunC K x qual st f (PySem.W.fnOf x qual (defArgs st) (defBody st) (defScope st) .none kV doc pm an cdv ct) c := by
  subst e
  exact ⟨oc, od, kV, doc, pm, an, ct, osl, rfl, l, h⟩
end
section
variable {K : PySem.W.Frag}
theorem fund_mk {x qual : Str} {params : Arguments} {body : List Stmt} {scope : Scope} {dvs : List V} {f T : Addr} {oc oc2 : Value} {od od2 an : Option Addr} {osl osl2 : Array (Option Value)} {kV doc pm cdv ct : Value} {its : Array Value} {n : Nat} (l : K.lookup f = some ⟨oc, od, .func (PySem.W.fnOf x qual params body scope (.ref T) kV doc pm an cdv ct), osl⟩)
    (c : PySem.W.codeIn K cdv qual = true) (k : PySem.W.keepIn K (.ref f) = true) (e : K.lookup T = some ⟨oc2, od2, .seq its n, osl2⟩) (hv : Vals dvs its.toList) (h0 : dvs ≠ [] := by simp) : FunD K x qual params body scope dvs [] f (PySem.W.fnOf x qual params body scope (.ref T) kV doc pm an cdv ct) :=
  ⟨⟨oc, od, _, kV, doc, pm, an, cdv, ct, osl, rfl, l, c, .inr ⟨h0, T, _, its.toList, n, rfl, e, rfl, hv⟩, .inl rfl⟩, k⟩
theorem binds_full {x qual : Str} {params : Arguments} {body : List Stmt} {scope : Scope} {v : V} {f : Addr} {fd : FuncData} {ps : List Str} (F : FunD K x qual params body scope [v] [] f fd)
    (h : ∀ (T : Addr) (kV doc pm : Value) (an : Option Addr) (cdv ct : Value) (us its : List Value), us.length = ps.length → its.length = 1 →
      ∃ k, bindArgs (PySem.W.fnOf x qual params body scope (.ref T) kV doc pm an cdv ct) ⟨us, []⟩ = seqItems? (.ref T) >>= k ∧ k (some its.toArray) = pure (ps.zip (us ++ its.drop 1))) : Binds K fd ps [] := by
  obtain ⟨ds, h1, h2⟩ := F.binds1 (ps := ps) ps.length 1 (by simp) (by show ps.length + (1 - 1) = ps.length; omega) h
  cases h1
  exact h2
end
/-- a def of the text, and a method -/
structure FnI (K : PySem.W.Frag) (x qual : Str) (st : Stmt) (ps : List Str) where
  f : Addr
  fd : FuncData
  F : Fun K x qual st f fd
  b : Binds K fd ps []
structure FnD (K : PySem.W.Frag) (x qual : Str) (st : Stmt) (ps : List Str) (dvs : List V) where
  f : Addr
  fd : FuncData
  F : FunD K x qual (defArgs st) (defBody st) (defScope st) dvs [] f fd
  b : Binds K fd ps []
  bd : ∃ ds, Vals dvs ds ∧ Binds K fd ps ds
structure MtI (K : PySem.W.Frag) (C : Addr) (x qual : Str) (st : Stmt) (ps : List Str) extends FnI K x qual st ps where
  mt : Meth K C x f
set_option maxHeartbeats 4000000 in
structure Top (K : PySem.W.Frag) (mg : Str → Option Value) where
  f_Books : Addr
  m_Books : mg "Books" = some (.ref f_Books)
  cl_Books : Cls K f_Books
  f_Seat : Addr
  m_Seat : mg "Seat" = some (.ref f_Seat)
  cl_Seat : Cls K f_Seat
  f_Circle : Addr
  m_Circle : mg "Circle" = some (.ref f_Circle)
  cl_Circle : Cls K f_Circle
  f_Table : Addr
  m_Table : mg "Table" = some (.ref f_Table)
  cl_Table : Cls K f_Table
  f_House : Addr
  m_House : mg "House" = some (.ref f_House)
  cl_House : Cls K f_House
  d__wall : FnI K "_wall" "_wall" s__wall ["k"]
  m__wall : mg "_wall" = some (.ref d__wall.f)
  d_Books___init__ : FnI K "__init__" "Books.__init__" s_Books___init__ ["self"]
  d_Books_put : MtI K f_Books "put" "Books.put" s_Books_put ["self", "shelf", "name", "thing"]
  d_Books_undo_to : MtI K f_Books "undo_to" "Books.undo_to" s_Books_undo_to ["self", "mark"]
  d_Books_has_member : MtI K f_Books "has_member" "Books.has_member" s_Books_has_member ["self", "name"]
  d_Books_has_table : MtI K f_Books "has_table" "Books.has_table" s_Books_has_table ["self", "circle"]
  d_Books_purse_of : MtI K f_Books "purse_of" "Books.purse_of" s_Books_purse_of ["self", "name"]
  d_Books_table_of : MtI K f_Books "table_of" "Books.table_of" s_Books_table_of ["self", "circle"]
  d_Books_brought : MtI K f_Books "brought" "Books.brought" s_Books_brought ["self"]
  d_Books_member_names : MtI K f_Books "member_names" "Books.member_names" s_Books_member_names ["self"]
  d_Books_table_names : MtI K f_Books "table_names" "Books.table_names" s_Books_table_names ["self"]
  d_Books_all_tables : MtI K f_Books "all_tables" "Books.all_tables" s_Books_all_tables ["self"]
  d_Books_add_member : MtI K f_Books "add_member" "Books.add_member" s_Books_add_member ["self", "name"]
  d_Books_drop_member : MtI K f_Books "drop_member" "Books.drop_member" s_Books_drop_member ["self", "name"]
  d_Books_put_table : MtI K f_Books "put_table" "Books.put_table" s_Books_put_table ["self", "circle", "table"]
  d_Books_add_coins : MtI K f_Books "add_coins" "Books.add_coins" s_Books_add_coins ["self", "name", "coins"]
  d_Books_add_brought : MtI K f_Books "add_brought" "Books.add_brought" s_Books_add_brought ["self", "coins"]
  d_Books_refuse_short : MtI K f_Books "refuse_short" "Books.refuse_short" s_Books_refuse_short ["self", "name", "coins"]
  d_Books_twin : MtI K f_Books "twin" "Books.twin" s_Books_twin ["self"]
  d_set_down : FnI K "set_down" "set_down" s_set_down ["shelf", "name", "thing"]
  m_set_down : mg "set_down" = some (.ref d_set_down.f)
  d_first_covered : FnI K "first_covered" "first_covered" s_first_covered ["stake", "seats", "pledge"]
  m_first_covered : mg "first_covered" = some (.ref d_first_covered.f)
  d_is_covered : FnI K "is_covered" "is_covered" s_is_covered ["stake", "seats", "pledge", "turn"]
  m_is_covered : mg "is_covered" = some (.ref d_is_covered.f)
  d_within : FnI K "within" "within" s_within ["windows", "a", "b"]
  m_within : mg "within" = some (.ref d_within.f)
  d_order_or_bar : FnI K "order_or_bar" "order_or_bar" s_order_or_bar ["windows"]
  m_order_or_bar : mg "order_or_bar" = some (.ref d_order_or_bar.f)
  d_told_order : FnI K "told_order" "told_order" s_told_order ["windows"]
  m_told_order : mg "told_order" = some (.ref d_told_order.f)
  d_fullest_span : FnI K "fullest_span" "fullest_span" s_fullest_span ["windows"]
  m_fullest_span : mg "fullest_span" = some (.ref d_fullest_span.f)
  d_surplus : FnI K "surplus" "surplus" s_surplus ["windows", "a", "b"]
  m_surplus : mg "surplus" = some (.ref d_surplus.f)
  d_rounds_between : FnI K "rounds_between" "rounds_between" s_rounds_between ["a", "b"]
  m_rounds_between : mg "rounds_between" = some (.ref d_rounds_between.f)
  d_Seat___init__ : FnI K "__init__" "Seat.__init__" s_Seat___init__ ["self", "pledge"]
  d_Seat_twin : MtI K f_Seat "twin" "Seat.twin" s_Seat_twin ["self"]
  d_Circle___init__ : FnD K "__init__" "Circle.__init__" s_Circle___init__ ["self", "stake", "pledges", "wishes", "bidding"] [.bl false]
  d_Circle_turn : MtI K f_Circle "turn" "Circle.turn" s_Circle_turn ["self"]
  d_Circle_ended : MtI K f_Circle "ended" "Circle.ended" s_Circle_ended ["self"]
  d_Circle_queue : MtI K f_Circle "queue" "Circle.queue" s_Circle_queue ["self"]
  d_Circle_rests : MtI K f_Circle "rests" "Circle.rests" s_Circle_rests ["self"]
  d_Circle_box : MtI K f_Circle "box" "Circle.box" s_Circle_box ["self"]
  d_Circle_pot : MtI K f_Circle "pot" "Circle.pot" s_Circle_pot ["self"]
  d_Circle_seat : MtI K f_Circle "seat" "Circle.seat" s_Circle_seat ["self", "at"]
  d_Circle_expected : MtI K f_Circle "expected" "Circle.expected" s_Circle_expected ["self", "at"]
  d_Circle_close : MtI K f_Circle "close" "Circle.close" s_Circle_close ["self", "paid", "bids"]
  d_Circle_lay : MtI K f_Circle "lay" "Circle.lay" s_Circle_lay ["self", "at", "coins"]
  d_Circle_swap : MtI K f_Circle "swap" "Circle.swap" s_Circle_swap ["self", "at", "other"]
  d_Circle_refunds : MtI K f_Circle "refunds" "Circle.refunds" s_Circle_refunds ["self"]
  d_Circle_twin : MtI K f_Circle "twin" "Circle.twin" s_Circle_twin ["self"]
  d_Circle_seat_at : MtI K f_Circle "seat_at" "Circle.seat_at" s_Circle_seat_at ["self", "at"]
  d_Circle_seats_of : MtI K f_Circle "seats_of" "Circle.seats_of" s_Circle_seats_of ["self", "numbers"]
  d_Circle_covers : MtI K f_Circle "covers" "Circle.covers" s_Circle_covers ["self", "at", "turn"]
  d_Circle_standings : MtI K f_Circle "standings" "Circle.standings" s_Circle_standings ["self"]
  d_Circle_unpaid : MtI K f_Circle "unpaid" "Circle.unpaid" s_Circle_unpaid ["self", "state", "paid"]
  d_Circle_refuse_lists : MtI K f_Circle "refuse_lists" "Circle.refuse_lists" s_Circle_refuse_lists ["self", "paid", "bids"]
  d_Circle_let_fall : MtI K f_Circle "let_fall" "Circle.let_fall" s_Circle_let_fall ["self", "fallen"]
  d_Circle_leave_queue : MtI K f_Circle "leave_queue" "Circle.leave_queue" s_Circle_leave_queue ["self", "at", "state"]
  d_Circle_charge_pledges : MtI K f_Circle "charge_pledges" "Circle.charge_pledges" s_Circle_charge_pledges ["self", "pledged"]
  d_Circle_collect : MtI K f_Circle "collect" "Circle.collect" s_Circle_collect ["self"]
  d_Circle_rest : MtI K f_Circle "rest" "Circle.rest" s_Circle_rest ["self", "payers"]
  d_Circle_draw : MtI K f_Circle "draw" "Circle.draw" s_Circle_draw ["self", "payers", "bids"]
  d_Circle_best_bid : MtI K f_Circle "best_bid" "Circle.best_bid" s_Circle_best_bid ["self", "bids"]
  d_refuse_opening : FnI K "refuse_opening" "refuse_opening" s_refuse_opening ["stake", "pledges", "wishes"]
  m_refuse_opening : mg "refuse_opening" = some (.ref d_refuse_opening.f)
  d_first_queue : FnI K "first_queue" "first_queue" s_first_queue ["stake", "pledges", "wishes"]
  m_first_queue : mg "first_queue" = some (.ref d_first_queue.f)
  d_is_name : FnI K "is_name" "is_name" s_is_name ["text"]
  m_is_name : mg "is_name" = some (.ref d_is_name.f)
  d_Table___init__ : FnI K "__init__" "Table.__init__" s_Table___init__ ["self", "sitters", "circle", "payments", "offers", "closed"]
  d_Table_seat_of : MtI K f_Table "seat_of" "Table.seat_of" s_Table_seat_of ["self", "name"]
  d_Table_state_of : MtI K f_Table "state_of" "Table.state_of" s_Table_state_of ["self", "at"]
  d_Table_with_payment : MtI K f_Table "with_payment" "Table.with_payment" s_Table_with_payment ["self", "at"]
  d_Table_with_offer : MtI K f_Table "with_offer" "Table.with_offer" s_Table_with_offer ["self", "at", "coins"]
  d_Table_with_circle : MtI K f_Table "with_circle" "Table.with_circle" s_Table_with_circle ["self", "circle"]
  d_Table_behind_round : MtI K f_Table "behind_round" "Table.behind_round" s_Table_behind_round ["self", "circle", "report"]
  d_Table_told_reports : MtI K f_Table "told_reports" "Table.told_reports" s_Table_told_reports ["self"]
  d_Table_holdings : MtI K f_Table "holdings" "Table.holdings" s_Table_holdings ["self"]
  d_Table_payouts : MtI K f_Table "payouts" "Table.payouts" s_Table_payouts ["self"]
  d_opened_table : FnI K "opened_table" "opened_table" s_opened_table ["sitters", "circle", "closed"]
  m_opened_table : mg "opened_table" = some (.ref d_opened_table.f)
  d_report_copy : FnI K "report_copy" "report_copy" s_report_copy ["report"]
  m_report_copy : mg "report_copy" = some (.ref d_report_copy.f)
  d_enter : FnI K "enter" "enter" s_enter ["books", "name"]
  m_enter : mg "enter" = some (.ref d_enter.f)
  d_part : FnI K "part" "part" s_part ["books", "name"]
  m_part : mg "part" = some (.ref d_part.f)
  d_bring : FnI K "bring" "bring" s_bring ["books", "name", "coins"]
  m_bring : mg "bring" = some (.ref d_bring.f)
  d_take : FnI K "take" "take" s_take ["books", "name", "coins"]
  m_take : mg "take" = some (.ref d_take.f)
  d_found : FnI K "found" "found" s_found ["books", "circle", "stake", "bidding", "seats"]
  m_found : mg "found" = some (.ref d_found.f)
  d_pay : FnI K "pay" "pay" s_pay ["books", "circle", "name"]
  m_pay : mg "pay" = some (.ref d_pay.f)
  d_bid : FnI K "bid" "bid" s_bid ["books", "circle", "name", "coins"]
  m_bid : mg "bid" = some (.ref d_bid.f)
  d_lay : FnI K "lay" "lay" s_lay ["books", "circle", "name", "coins"]
  m_lay : mg "lay" = some (.ref d_lay.f)
  d_swap : FnI K "swap" "swap" s_swap ["books", "circle", "name", "other"]
  m_swap : mg "swap" = some (.ref d_swap.f)
  d_close : FnI K "close" "close" s_close ["books", "circle"]
  m_close : mg "close" = some (.ref d_close.f)
  d_refuse_ended : FnI K "refuse_ended" "refuse_ended" s_refuse_ended ["table"]
  m_refuse_ended : mg "refuse_ended" = some (.ref d_refuse_ended.f)
  d_refuse_beyond : FnI K "refuse_beyond" "refuse_beyond" s_refuse_beyond ["coins", "least", "most"]
  m_refuse_beyond : mg "refuse_beyond" = some (.ref d_refuse_beyond.f)
  d_done : FnI K "done" "done" s_done ["books", "row"]
  m_done : mg "done" = some (.ref d_done.f)
  d_House___init__ : FnI K "__init__" "House.__init__" s_House___init__ ["self"]
  d_House_enter : MtI K f_House "enter" "House.enter" s_House_enter ["self", "name"]
  d_House_part : MtI K f_House "part" "House.part" s_House_part ["self", "name"]
  d_House_bring : MtI K f_House "bring" "House.bring" s_House_bring ["self", "name", "coins"]
  d_House_take : MtI K f_House "take" "House.take" s_House_take ["self", "name", "coins"]
  d_House_found : MtI K f_House "found" "House.found" s_House_found ["self", "circle", "stake", "bidding", "seats"]
  d_House_pay : MtI K f_House "pay" "House.pay" s_House_pay ["self", "circle", "name"]
  d_House_bid : MtI K f_House "bid" "House.bid" s_House_bid ["self", "circle", "name", "coins"]
  d_House_lay : MtI K f_House "lay" "House.lay" s_House_lay ["self", "circle", "name", "coins"]
  d_House_swap : MtI K f_House "swap" "House.swap" s_House_swap ["self", "circle", "name", "other"]
  d_House_close : MtI K f_House "close" "House.close" s_House_close ["self", "circle"]
  d_House_deed : MtI K f_House "deed" "House.deed" s_House_deed ["self", "row"]
  d_House_back : MtI K f_House "back" "House.back" s_House_back ["self"]
  d_House_again : MtI K f_House "again" "House.again" s_House_again ["self"]
  d_House_members : MtI K f_House "members" "House.members" s_House_members ["self"]
  d_House_purse : MtI K f_House "purse" "House.purse" s_House_purse ["self", "name"]
  d_House_circles : MtI K f_House "circles" "House.circles" s_House_circles ["self"]
  d_House_names : MtI K f_House "names" "House.names" s_House_names ["self", "circle"]
  d_House_turn : MtI K f_House "turn" "House.turn" s_House_turn ["self", "circle"]
  d_House_rests : MtI K f_House "rests" "House.rests" s_House_rests ["self", "circle"]
  d_House_queue : MtI K f_House "queue" "House.queue" s_House_queue ["self", "circle"]
  d_House_paid : MtI K f_House "paid" "House.paid" s_House_paid ["self", "circle"]
  d_House_bids : MtI K f_House "bids" "House.bids" s_House_bids ["self", "circle"]
  d_House_reports : MtI K f_House "reports" "House.reports" s_House_reports ["self", "circle"]
  d_House_held : MtI K f_House "held" "House.held" s_House_held ["self", "circle"]
  d_House_seat : MtI K f_House "seat" "House.seat" s_House_seat ["self", "circle", "name"]
  d_House_coins : MtI K f_House "coins" "House.coins" s_House_coins ["self"]
  d_House_twin : MtI K f_House "twin" "House.twin" s_House_twin ["self"]
  d_House_keep_done : MtI K f_House "keep_done" "House.keep_done" s_House_keep_done ["self", "row"]
  d__law_draws : FnI K "_law_draws" "_law_draws" s__law_draws ["_law_script", "_law_many"]
  m__law_draws : mg "_law_draws" = some (.ref d__law_draws.f)
  d__law_same : FnI K "_law_same" "_law_same" s__law_same ["_law_told", "_law_due_here"]
  m__law_same : mg "_law_same" = some (.ref d__law_same.f)
  d__law_names : FnI K "_law_names" "_law_names" s__law_names ["_law_some", "_law_many"]
  m__law_names : mg "_law_names" = some (.ref d__law_names.f)
  d__law_is_name : FnI K "_law_is_name" "_law_is_name" s__law_is_name ["_law_word"]
  m__law_is_name : mg "_law_is_name" = some (.ref d__law_is_name.f)
  d__law_member_deed : FnI K "_law_member_deed" "_law_member_deed" s__law_member_deed ["_law_book", "_law_row"]
  m__law_member_deed : mg "_law_member_deed" = some (.ref d__law_member_deed.f)
  d__law_table_due : FnI K "_law_table_due" "_law_table_due" s__law_table_due ["_law_table"]
  m__law_table_due : mg "_law_table_due" = some (.ref d__law_table_due.f)
  d__law_due : FnI K "_law_due" "_law_due" s__law_due ["_law_book"]
  m__law_due : mg "_law_due" = some (.ref d__law_due.f)
  d__law_named : FnI K "_law_named" "_law_named" s__law_named ["_law_people", "_law_raw"]
  m__law_named : mg "_law_named" = some (.ref d__law_named.f)
  d__law_done : FnI K "_law_done" "_law_done" s__law_done ["_law_house", "_law_row"]
  m__law_done : mg "_law_done" = some (.ref d__law_done.f)
  d__law_marks : FnI K "_law_marks" "_law_marks" s__law_marks ["_law_word"]
  m__law_marks : mg "_law_marks" = some (.ref d__law_marks.f)
  d__law_table_seen : FnI K "_law_table_seen" "_law_table_seen" s__law_table_seen ["_law_house", "_law_circle"]
  m__law_table_seen : mg "_law_table_seen" = some (.ref d__law_table_seen.f)
  d__law_seen : FnI K "_law_seen" "_law_seen" s__law_seen ["_law_house"]
  m__law_seen : mg "_law_seen" = some (.ref d__law_seen.f)
  d__law_missing : FnI K "_law_missing" "_law_missing" s__law_missing ["_law_house", "_law_name"]
  m__law_missing : mg "_law_missing" = some (.ref d__law_missing.f)
  d_law : FnI K "law" "law" s_law ["_law_script"]
  m_law : mg "law" = some (.ref d_law.f)
  mk_Books : Mk K f_Books d_Books___init__.f
  na_Books : ∀ x ∈ (["shelves", "trail"] : List Str), NoAttr K f_Books x
  mk_Seat : Mk K f_Seat d_Seat___init__.f
  na_Seat : ∀ x ∈ (["state", "since", "pledge", "given", "drawn", "shared", "pledge_stakes"] : List Str), NoAttr K f_Seat x
  mk_Circle : Mk K f_Circle d_Circle___init__.f
  na_Circle : ∀ x ∈ (["line", "stake", "first_pledges", "wishes", "bidding", "seats", "open_round", "rests_due", "chest", "flows"] : List Str), NoAttr K f_Circle x
  mk_Table : Mk K f_Table d_Table___init__.f
  na_Table : ∀ x ∈ (["sitters", "circle", "payments", "offers", "closed"] : List Str), NoAttr K f_Table x
  mk_House : Mk K f_House d_House___init__.f
  na_House : ∀ x ∈ (["books", "kept", "undone"] : List Str), NoAttr K f_House x
  m_abs : mg "abs" = none
  m_all : mg "all" = none
  m_any : mg "any" = none
  m_bool : mg "bool" = none
  m_dict : mg "dict" = none
  m_enumerate : mg "enumerate" = none
  m_int : mg "int" = none
  m_isinstance : mg "isinstance" = none
  m_len : mg "len" = none
  m_list : mg "list" = none
  m_max : mg "max" = none
  m_min : mg "min" = none
  m_range : mg "range" = none
  m_set : mg "set" = none
  m_sorted : mg "sorted" = none
  m_str : mg "str" = none
  m_sum : mg "sum" = none
  m_tuple : mg "tuple" = none
  m_zip : mg "zip" = none
  f_SusuError : Addr
  m_SusuError : mg "SusuError" = some (.ref f_SusuError)
  f_BadName : Addr
  m_BadName : mg "BadName" = some (.ref f_BadName)
  f_BadNumber : Addr
  m_BadNumber : mg "BadNumber" = some (.ref f_BadNumber)
  f_Known : Addr
  m_Known : mg "Known" = some (.ref f_Known)
  f_Unknown : Addr
  m_Unknown : mg "Unknown" = some (.ref f_Unknown)
  f_Twice : Addr
  m_Twice : mg "Twice" = some (.ref f_Twice)
  f_Seated : Addr
  m_Seated : mg "Seated" = some (.ref f_Seated)
  f_Holding : Addr
  m_Holding : mg "Holding" = some (.ref f_Holding)
  f_Short : Addr
  m_Short : mg "Short" = some (.ref f_Short)
  f_NoSeat : Addr
  m_NoSeat : mg "NoSeat" = some (.ref f_NoSeat)
  f_Ended : Addr
  m_Ended : mg "Ended" = some (.ref f_Ended)
  f_Fell : Addr
  m_Fell : mg "Fell" = some (.ref f_Fell)
  f_Paid : Addr
  m_Paid : mg "Paid" = some (.ref f_Paid)
  f_NoBids : Addr
  m_NoBids : mg "NoBids" = some (.ref f_NoBids)
  f_NotWaiting : Addr
  m_NotWaiting : mg "NotWaiting" = some (.ref f_NotWaiting)
  f_Uncovered : Addr
  m_Uncovered : mg "Uncovered" = some (.ref f_Uncovered)
  f_NoOrder : Addr
  m_NoOrder : mg "NoOrder" = some (.ref f_NoOrder)
  x_BadName : PySem.W.excIn K f_BadName vErr "ValueError.__new__" = true
  kp_BadName : PySem.W.keepIn K (.ref f_BadName) = true
  e_BadName : ExcC K f_BadName
  su_BadName_SusuError : PySem.W.subIn K (.ref f_BadName) (.ref f_SusuError) = some true
  su_BadName_Unknown : PySem.W.subIn K (.ref f_BadName) (.ref f_Unknown) = some false
  ki_BadName_BadName : PySem.W.kitOne K (.ref f_BadName) (.ref f_BadName) = some true
  ki_BadName_BadNumber : PySem.W.kitOne K (.ref f_BadName) (.ref f_BadNumber) = some false
  ki_BadName_Known : PySem.W.kitOne K (.ref f_BadName) (.ref f_Known) = some false
  ki_BadName_Unknown : PySem.W.kitOne K (.ref f_BadName) (.ref f_Unknown) = some false
  ki_BadName_Twice : PySem.W.kitOne K (.ref f_BadName) (.ref f_Twice) = some false
  ki_BadName_Seated : PySem.W.kitOne K (.ref f_BadName) (.ref f_Seated) = some false
  ki_BadName_Holding : PySem.W.kitOne K (.ref f_BadName) (.ref f_Holding) = some false
  ki_BadName_Short : PySem.W.kitOne K (.ref f_BadName) (.ref f_Short) = some false
  ki_BadName_NoSeat : PySem.W.kitOne K (.ref f_BadName) (.ref f_NoSeat) = some false
  ki_BadName_Ended : PySem.W.kitOne K (.ref f_BadName) (.ref f_Ended) = some false
  ki_BadName_Fell : PySem.W.kitOne K (.ref f_BadName) (.ref f_Fell) = some false
  ki_BadName_Paid : PySem.W.kitOne K (.ref f_BadName) (.ref f_Paid) = some false
  ki_BadName_NoBids : PySem.W.kitOne K (.ref f_BadName) (.ref f_NoBids) = some false
  ki_BadName_NotWaiting : PySem.W.kitOne K (.ref f_BadName) (.ref f_NotWaiting) = some false
  ki_BadName_Uncovered : PySem.W.kitOne K (.ref f_BadName) (.ref f_Uncovered) = some false
  ki_BadName_NoOrder : PySem.W.kitOne K (.ref f_BadName) (.ref f_NoOrder) = some false
  x_BadNumber : PySem.W.excIn K f_BadNumber vErr "ValueError.__new__" = true
  kp_BadNumber : PySem.W.keepIn K (.ref f_BadNumber) = true
  e_BadNumber : ExcC K f_BadNumber
  su_BadNumber_SusuError : PySem.W.subIn K (.ref f_BadNumber) (.ref f_SusuError) = some true
  su_BadNumber_Unknown : PySem.W.subIn K (.ref f_BadNumber) (.ref f_Unknown) = some false
  ki_BadNumber_BadName : PySem.W.kitOne K (.ref f_BadNumber) (.ref f_BadName) = some false
  ki_BadNumber_BadNumber : PySem.W.kitOne K (.ref f_BadNumber) (.ref f_BadNumber) = some true
  ki_BadNumber_Known : PySem.W.kitOne K (.ref f_BadNumber) (.ref f_Known) = some false
  ki_BadNumber_Unknown : PySem.W.kitOne K (.ref f_BadNumber) (.ref f_Unknown) = some false
  ki_BadNumber_Twice : PySem.W.kitOne K (.ref f_BadNumber) (.ref f_Twice) = some false
  ki_BadNumber_Seated : PySem.W.kitOne K (.ref f_BadNumber) (.ref f_Seated) = some false
  ki_BadNumber_Holding : PySem.W.kitOne K (.ref f_BadNumber) (.ref f_Holding) = some false
  ki_BadNumber_Short : PySem.W.kitOne K (.ref f_BadNumber) (.ref f_Short) = some false
  ki_BadNumber_NoSeat : PySem.W.kitOne K (.ref f_BadNumber) (.ref f_NoSeat) = some false
  ki_BadNumber_Ended : PySem.W.kitOne K (.ref f_BadNumber) (.ref f_Ended) = some false
  ki_BadNumber_Fell : PySem.W.kitOne K (.ref f_BadNumber) (.ref f_Fell) = some false
  ki_BadNumber_Paid : PySem.W.kitOne K (.ref f_BadNumber) (.ref f_Paid) = some false
  ki_BadNumber_NoBids : PySem.W.kitOne K (.ref f_BadNumber) (.ref f_NoBids) = some false
  ki_BadNumber_NotWaiting : PySem.W.kitOne K (.ref f_BadNumber) (.ref f_NotWaiting) = some false
  ki_BadNumber_Uncovered : PySem.W.kitOne K (.ref f_BadNumber) (.ref f_Uncovered) = some false
  ki_BadNumber_NoOrder : PySem.W.kitOne K (.ref f_BadNumber) (.ref f_NoOrder) = some false
  x_Known : PySem.W.excIn K f_Known vErr "ValueError.__new__" = true
  kp_Known : PySem.W.keepIn K (.ref f_Known) = true
  e_Known : ExcC K f_Known
  su_Known_SusuError : PySem.W.subIn K (.ref f_Known) (.ref f_SusuError) = some true
  su_Known_Unknown : PySem.W.subIn K (.ref f_Known) (.ref f_Unknown) = some false
  ki_Known_BadName : PySem.W.kitOne K (.ref f_Known) (.ref f_BadName) = some false
  ki_Known_BadNumber : PySem.W.kitOne K (.ref f_Known) (.ref f_BadNumber) = some false
  ki_Known_Known : PySem.W.kitOne K (.ref f_Known) (.ref f_Known) = some true
  ki_Known_Unknown : PySem.W.kitOne K (.ref f_Known) (.ref f_Unknown) = some false
  ki_Known_Twice : PySem.W.kitOne K (.ref f_Known) (.ref f_Twice) = some false
  ki_Known_Seated : PySem.W.kitOne K (.ref f_Known) (.ref f_Seated) = some false
  ki_Known_Holding : PySem.W.kitOne K (.ref f_Known) (.ref f_Holding) = some false
  ki_Known_Short : PySem.W.kitOne K (.ref f_Known) (.ref f_Short) = some false
  ki_Known_NoSeat : PySem.W.kitOne K (.ref f_Known) (.ref f_NoSeat) = some false
  ki_Known_Ended : PySem.W.kitOne K (.ref f_Known) (.ref f_Ended) = some false
  ki_Known_Fell : PySem.W.kitOne K (.ref f_Known) (.ref f_Fell) = some false
  ki_Known_Paid : PySem.W.kitOne K (.ref f_Known) (.ref f_Paid) = some false
  ki_Known_NoBids : PySem.W.kitOne K (.ref f_Known) (.ref f_NoBids) = some false
  ki_Known_NotWaiting : PySem.W.kitOne K (.ref f_Known) (.ref f_NotWaiting) = some false
  ki_Known_Uncovered : PySem.W.kitOne K (.ref f_Known) (.ref f_Uncovered) = some false
  ki_Known_NoOrder : PySem.W.kitOne K (.ref f_Known) (.ref f_NoOrder) = some false
  x_Unknown : PySem.W.excIn K f_Unknown vErr "ValueError.__new__" = true
  kp_Unknown : PySem.W.keepIn K (.ref f_Unknown) = true
  e_Unknown : ExcC K f_Unknown
  su_Unknown_SusuError : PySem.W.subIn K (.ref f_Unknown) (.ref f_SusuError) = some true
  su_Unknown_Unknown : PySem.W.subIn K (.ref f_Unknown) (.ref f_Unknown) = some true
  ki_Unknown_BadName : PySem.W.kitOne K (.ref f_Unknown) (.ref f_BadName) = some false
  ki_Unknown_BadNumber : PySem.W.kitOne K (.ref f_Unknown) (.ref f_BadNumber) = some false
  ki_Unknown_Known : PySem.W.kitOne K (.ref f_Unknown) (.ref f_Known) = some false
  ki_Unknown_Unknown : PySem.W.kitOne K (.ref f_Unknown) (.ref f_Unknown) = some true
  ki_Unknown_Twice : PySem.W.kitOne K (.ref f_Unknown) (.ref f_Twice) = some false
  ki_Unknown_Seated : PySem.W.kitOne K (.ref f_Unknown) (.ref f_Seated) = some false
  ki_Unknown_Holding : PySem.W.kitOne K (.ref f_Unknown) (.ref f_Holding) = some false
  ki_Unknown_Short : PySem.W.kitOne K (.ref f_Unknown) (.ref f_Short) = some false
  ki_Unknown_NoSeat : PySem.W.kitOne K (.ref f_Unknown) (.ref f_NoSeat) = some false
  ki_Unknown_Ended : PySem.W.kitOne K (.ref f_Unknown) (.ref f_Ended) = some false
  ki_Unknown_Fell : PySem.W.kitOne K (.ref f_Unknown) (.ref f_Fell) = some false
  ki_Unknown_Paid : PySem.W.kitOne K (.ref f_Unknown) (.ref f_Paid) = some false
  ki_Unknown_NoBids : PySem.W.kitOne K (.ref f_Unknown) (.ref f_NoBids) = some false
  ki_Unknown_NotWaiting : PySem.W.kitOne K (.ref f_Unknown) (.ref f_NotWaiting) = some false
  ki_Unknown_Uncovered : PySem.W.kitOne K (.ref f_Unknown) (.ref f_Uncovered) = some false
  ki_Unknown_NoOrder : PySem.W.kitOne K (.ref f_Unknown) (.ref f_NoOrder) = some false
  x_Seated : PySem.W.excIn K f_Seated vErr "ValueError.__new__" = true
  kp_Seated : PySem.W.keepIn K (.ref f_Seated) = true
  e_Seated : ExcC K f_Seated
  su_Seated_SusuError : PySem.W.subIn K (.ref f_Seated) (.ref f_SusuError) = some true
  su_Seated_Unknown : PySem.W.subIn K (.ref f_Seated) (.ref f_Unknown) = some false
  ki_Seated_BadName : PySem.W.kitOne K (.ref f_Seated) (.ref f_BadName) = some false
  ki_Seated_BadNumber : PySem.W.kitOne K (.ref f_Seated) (.ref f_BadNumber) = some false
  ki_Seated_Known : PySem.W.kitOne K (.ref f_Seated) (.ref f_Known) = some false
  ki_Seated_Unknown : PySem.W.kitOne K (.ref f_Seated) (.ref f_Unknown) = some false
  ki_Seated_Twice : PySem.W.kitOne K (.ref f_Seated) (.ref f_Twice) = some false
  ki_Seated_Seated : PySem.W.kitOne K (.ref f_Seated) (.ref f_Seated) = some true
  ki_Seated_Holding : PySem.W.kitOne K (.ref f_Seated) (.ref f_Holding) = some false
  ki_Seated_Short : PySem.W.kitOne K (.ref f_Seated) (.ref f_Short) = some false
  ki_Seated_NoSeat : PySem.W.kitOne K (.ref f_Seated) (.ref f_NoSeat) = some false
  ki_Seated_Ended : PySem.W.kitOne K (.ref f_Seated) (.ref f_Ended) = some false
  ki_Seated_Fell : PySem.W.kitOne K (.ref f_Seated) (.ref f_Fell) = some false
  ki_Seated_Paid : PySem.W.kitOne K (.ref f_Seated) (.ref f_Paid) = some false
  ki_Seated_NoBids : PySem.W.kitOne K (.ref f_Seated) (.ref f_NoBids) = some false
  ki_Seated_NotWaiting : PySem.W.kitOne K (.ref f_Seated) (.ref f_NotWaiting) = some false
  ki_Seated_Uncovered : PySem.W.kitOne K (.ref f_Seated) (.ref f_Uncovered) = some false
  ki_Seated_NoOrder : PySem.W.kitOne K (.ref f_Seated) (.ref f_NoOrder) = some false
  x_Holding : PySem.W.excIn K f_Holding vErr "ValueError.__new__" = true
  kp_Holding : PySem.W.keepIn K (.ref f_Holding) = true
  e_Holding : ExcC K f_Holding
  su_Holding_SusuError : PySem.W.subIn K (.ref f_Holding) (.ref f_SusuError) = some true
  su_Holding_Unknown : PySem.W.subIn K (.ref f_Holding) (.ref f_Unknown) = some false
  ki_Holding_BadName : PySem.W.kitOne K (.ref f_Holding) (.ref f_BadName) = some false
  ki_Holding_BadNumber : PySem.W.kitOne K (.ref f_Holding) (.ref f_BadNumber) = some false
  ki_Holding_Known : PySem.W.kitOne K (.ref f_Holding) (.ref f_Known) = some false
  ki_Holding_Unknown : PySem.W.kitOne K (.ref f_Holding) (.ref f_Unknown) = some false
  ki_Holding_Twice : PySem.W.kitOne K (.ref f_Holding) (.ref f_Twice) = some false
  ki_Holding_Seated : PySem.W.kitOne K (.ref f_Holding) (.ref f_Seated) = some false
  ki_Holding_Holding : PySem.W.kitOne K (.ref f_Holding) (.ref f_Holding) = some true
  ki_Holding_Short : PySem.W.kitOne K (.ref f_Holding) (.ref f_Short) = some false
  ki_Holding_NoSeat : PySem.W.kitOne K (.ref f_Holding) (.ref f_NoSeat) = some false
  ki_Holding_Ended : PySem.W.kitOne K (.ref f_Holding) (.ref f_Ended) = some false
  ki_Holding_Fell : PySem.W.kitOne K (.ref f_Holding) (.ref f_Fell) = some false
  ki_Holding_Paid : PySem.W.kitOne K (.ref f_Holding) (.ref f_Paid) = some false
  ki_Holding_NoBids : PySem.W.kitOne K (.ref f_Holding) (.ref f_NoBids) = some false
  ki_Holding_NotWaiting : PySem.W.kitOne K (.ref f_Holding) (.ref f_NotWaiting) = some false
  ki_Holding_Uncovered : PySem.W.kitOne K (.ref f_Holding) (.ref f_Uncovered) = some false
  ki_Holding_NoOrder : PySem.W.kitOne K (.ref f_Holding) (.ref f_NoOrder) = some false
  x_Short : PySem.W.excIn K f_Short vErr "ValueError.__new__" = true
  kp_Short : PySem.W.keepIn K (.ref f_Short) = true
  e_Short : ExcC K f_Short
  su_Short_SusuError : PySem.W.subIn K (.ref f_Short) (.ref f_SusuError) = some true
  su_Short_Unknown : PySem.W.subIn K (.ref f_Short) (.ref f_Unknown) = some false
  ki_Short_BadName : PySem.W.kitOne K (.ref f_Short) (.ref f_BadName) = some false
  ki_Short_BadNumber : PySem.W.kitOne K (.ref f_Short) (.ref f_BadNumber) = some false
  ki_Short_Known : PySem.W.kitOne K (.ref f_Short) (.ref f_Known) = some false
  ki_Short_Unknown : PySem.W.kitOne K (.ref f_Short) (.ref f_Unknown) = some false
  ki_Short_Twice : PySem.W.kitOne K (.ref f_Short) (.ref f_Twice) = some false
  ki_Short_Seated : PySem.W.kitOne K (.ref f_Short) (.ref f_Seated) = some false
  ki_Short_Holding : PySem.W.kitOne K (.ref f_Short) (.ref f_Holding) = some false
  ki_Short_Short : PySem.W.kitOne K (.ref f_Short) (.ref f_Short) = some true
  ki_Short_NoSeat : PySem.W.kitOne K (.ref f_Short) (.ref f_NoSeat) = some false
  ki_Short_Ended : PySem.W.kitOne K (.ref f_Short) (.ref f_Ended) = some false
  ki_Short_Fell : PySem.W.kitOne K (.ref f_Short) (.ref f_Fell) = some false
  ki_Short_Paid : PySem.W.kitOne K (.ref f_Short) (.ref f_Paid) = some false
  ki_Short_NoBids : PySem.W.kitOne K (.ref f_Short) (.ref f_NoBids) = some false
  ki_Short_NotWaiting : PySem.W.kitOne K (.ref f_Short) (.ref f_NotWaiting) = some false
  ki_Short_Uncovered : PySem.W.kitOne K (.ref f_Short) (.ref f_Uncovered) = some false
  ki_Short_NoOrder : PySem.W.kitOne K (.ref f_Short) (.ref f_NoOrder) = some false
  sb_BadName : PySem.W.subIn K (.ref f_BadName) (.type "BaseException") = some true
  ty_BadName : PySem.W.typeIn K (.ref f_BadName) = some (.type "type")
  sb_BadNumber : PySem.W.subIn K (.ref f_BadNumber) (.type "BaseException") = some true
  ty_BadNumber : PySem.W.typeIn K (.ref f_BadNumber) = some (.type "type")
  sb_Holding : PySem.W.subIn K (.ref f_Holding) (.type "BaseException") = some true
  ty_Holding : PySem.W.typeIn K (.ref f_Holding) = some (.type "type")
  sb_Known : PySem.W.subIn K (.ref f_Known) (.type "BaseException") = some true
  ty_Known : PySem.W.typeIn K (.ref f_Known) = some (.type "type")
  sb_Seated : PySem.W.subIn K (.ref f_Seated) (.type "BaseException") = some true
  ty_Seated : PySem.W.typeIn K (.ref f_Seated) = some (.type "type")
  sb_Short : PySem.W.subIn K (.ref f_Short) (.type "BaseException") = some true
  ty_Short : PySem.W.typeIn K (.ref f_Short) = some (.type "type")
  sb_SusuError : PySem.W.subIn K (.ref f_SusuError) (.type "BaseException") = some true
  ty_SusuError : PySem.W.typeIn K (.ref f_SusuError) = some (.type "type")
  sb_Unknown : PySem.W.subIn K (.ref f_Unknown) (.type "BaseException") = some true
  ty_Unknown : PySem.W.typeIn K (.ref f_Unknown) = some (.type "type")
  hd_SusuError : PySem.W.hasDictIn K f_SusuError = true
  hd_Unknown : PySem.W.hasDictIn K f_Unknown = true
  f_ACTIONS : Addr
  m_ACTIONS : mg "ACTIONS" = some (.ref f_ACTIONS)
  c_Books_member_names : Addr
  P_Books_member_names : Addr
  C_Books_member_names : FunC K "member_names" "Books.member_names" s_Books_member_names d_Books_member_names.f d_Books_member_names.fd c_Books_member_names
  t_MEMBERS : Tok
  m_MEMBERS : mg "MEMBERS" = some (.str "members" t_MEMBERS)
  t_TABLES : Tok
  m_TABLES : mg "TABLES" = some (.str "tables" t_TABLES)
  t_SUMS : Tok
  m_SUMS : mg "SUMS" = some (.str "sums" t_SUMS)
  t_BROUGHT : Tok
  m_BROUGHT : mg "BROUGHT" = some (.str "brought" t_BROUGHT)
  t_MOST_STAKE : Tok
  m_MOST_STAKE : mg "MOST_STAKE" = some (.int 1000000 t_MOST_STAKE)
  t_LEAST_SEATS : Tok
  m_LEAST_SEATS : mg "LEAST_SEATS" = some (.int 2 t_LEAST_SEATS)
  t_MOST_SEATS : Tok
  m_MOST_SEATS : mg "MOST_SEATS" = some (.int 20 t_MOST_SEATS)
  t_MOST_COINS : Tok
  m_MOST_COINS : mg "MOST_COINS" = some (.int 1000000000 t_MOST_COINS)
  t_WAITS : Tok
  m_WAITS : mg "WAITS" = some (.str "waits" t_WAITS)
  t_DREW : Tok
  m_DREW : mg "DREW" = some (.str "drew" t_DREW)
  t_FELL : Tok
  m_FELL : mg "FELL" = some (.str "fell" t_FELL)
  t_LETTERS : Tok
  m_LETTERS : mg "LETTERS" = some (.str "abcdefghijklmnopqrstuvwxyz" t_LETTERS)
  t_LONGEST_NAME : Tok
  m_LONGEST_NAME : mg "LONGEST_NAME" = some (.int 12 t_LONGEST_NAME)
abbrev Top.f__wall {K : PySem.W.Frag} {mg : Str → Option Value} (T : Top K mg) : Addr := T.d__wall.f
abbrev Top.fd__wall {K : PySem.W.Frag} {mg : Str → Option Value} (T : Top K mg) : FuncData := T.d__wall.fd
theorem Top.F__wall {K : PySem.W.Frag} {mg : Str → Option Value} (T : Top K mg) : Fun K "_wall" "_wall" s__wall T.f__wall T.fd__wall := T.d__wall.F
theorem Top.b__wall {K : PySem.W.Frag} {mg : Str → Option Value} (T : Top K mg) : Binds K T.fd__wall ["k"] [] := T.d__wall.b
abbrev Top.f_Books___init__ {K : PySem.W.Frag} {mg : Str → Option Value} (T : Top K mg) : Addr := T.d_Books___init__.f
abbrev Top.fd_Books___init__ {K : PySem.W.Frag} {mg : Str → Option Value} (T : Top K mg) : FuncData := T.d_Books___init__.fd
theorem Top.F_Books___init__ {K : PySem.W.Frag} {mg : Str → Option Value} (T : Top K mg) : Fun K "__init__" "Books.__init__" s_Books___init__ T.f_Books___init__ T.fd_Books___init__ := T.d_Books___init__.F
theorem Top.b_Books___init__ {K : PySem.W.Frag} {mg : Str → Option Value} (T : Top K mg) : Binds K T.fd_Books___init__ ["self"] [] := T.d_Books___init__.b
abbrev Top.f_Books_put {K : PySem.W.Frag} {mg : Str → Option Value} (T : Top K mg) : Addr := T.d_Books_put.f
abbrev Top.fd_Books_put {K : PySem.W.Frag} {mg : Str → Option Value} (T : Top K mg) : FuncData := T.d_Books_put.fd
theorem Top.F_Books_put {K : PySem.W.Frag} {mg : Str → Option Value} (T : Top K mg) : Fun K "put" "Books.put" s_Books_put T.f_Books_put T.fd_Books_put := T.d_Books_put.F
theorem Top.b_Books_put {K : PySem.W.Frag} {mg : Str → Option Value} (T : Top K mg) : Binds K T.fd_Books_put ["self", "shelf", "name", "thing"] [] := T.d_Books_put.b
theorem Top.mt_Books_put {K : PySem.W.Frag} {mg : Str → Option Value} (T : Top K mg) : Meth K T.f_Books "put" T.f_Books_put := T.d_Books_put.mt
abbrev Top.f_Books_undo_to {K : PySem.W.Frag} {mg : Str → Option Value} (T : Top K mg) : Addr := T.d_Books_undo_to.f
abbrev Top.fd_Books_undo_to {K : PySem.W.Frag} {mg : Str → Option Value} (T : Top K mg) : FuncData := T.d_Books_undo_to.fd
theorem Top.F_Books_undo_to {K : PySem.W.Frag} {mg : Str → Option Value} (T : Top K mg) : Fun K "undo_to" "Books.undo_to" s_Books_undo_to T.f_Books_undo_to T.fd_Books_undo_to := T.d_Books_undo_to.F
theorem Top.b_Books_undo_to {K : PySem.W.Frag} {mg : Str → Option Value} (T : Top K mg) : Binds K T.fd_Books_undo_to ["self", "mark"] [] := T.d_Books_undo_to.b
theorem Top.mt_Books_undo_to {K : PySem.W.Frag} {mg : Str → Option Value} (T : Top K mg) : Meth K T.f_Books "undo_to" T.f_Books_undo_to := T.d_Books_undo_to.mt
abbrev Top.f_Books_has_member {K : PySem.W.Frag} {mg : Str → Option Value} (T : Top K mg) : Addr := T.d_Books_has_member.f
abbrev Top.fd_Books_has_member {K : PySem.W.Frag} {mg : Str → Option Value} (T : Top K mg) : FuncData := T.d_Books_has_member.fd
theorem Top.F_Books_has_member {K : PySem.W.Frag} {mg : Str → Option Value} (T : Top K mg) : Fun K "has_member" "Books.has_member" s_Books_has_member T.f_Books_has_member T.fd_Books_has_member := T.d_Books_has_member.F
theorem Top.b_Books_has_member {K : PySem.W.Frag} {mg : Str → Option Value} (T : Top K mg) : Binds K T.fd_Books_has_member ["self", "name"] [] := T.d_Books_has_member.b
theorem Top.mt_Books_has_member {K : PySem.W.Frag} {mg : Str → Option Value} (T : Top K mg) : Meth K T.f_Books "has_member" T.f_Books_has_member := T.d_Books_has_member.mt
abbrev Top.f_Books_has_table {K : PySem.W.Frag} {mg : Str → Option Value} (T : Top K mg) : Addr := T.d_Books_has_table.f
abbrev Top.fd_Books_has_table {K : PySem.W.Frag} {mg : Str → Option Value} (T : Top K mg) : FuncData := T.d_Books_has_table.fd
theorem Top.F_Books_has_table {K : PySem.W.Frag} {mg : Str → Option Value} (T : Top K mg) : Fun K "has_table" "Books.has_table" s_Books_has_table T.f_Books_has_table T.fd_Books_has_table := T.d_Books_has_table.F
theorem Top.b_Books_has_table {K : PySem.W.Frag} {mg : Str → Option Value} (T : Top K mg) : Binds K T.fd_Books_has_table ["self", "circle"] [] := T.d_Books_has_table.b
theorem Top.mt_Books_has_table {K : PySem.W.Frag} {mg : Str → Option Value} (T : Top K mg) : Meth K T.f_Books "has_table" T.f_Books_has_table := T.d_Books_has_table.mt
abbrev Top.f_Books_purse_of {K : PySem.W.Frag} {mg : Str → Option Value} (T : Top K mg) : Addr := T.d_Books_purse_of.f
abbrev Top.fd_Books_purse_of {K : PySem.W.Frag} {mg : Str → Option Value} (T : Top K mg) : FuncData := T.d_Books_purse_of.fd
theorem Top.F_Books_purse_of {K : PySem.W.Frag} {mg : Str → Option Value} (T : Top K mg) : Fun K "purse_of" "Books.purse_of" s_Books_purse_of T.f_Books_purse_of T.fd_Books_purse_of := T.d_Books_purse_of.F
theorem Top.b_Books_purse_of {K : PySem.W.Frag} {mg : Str → Option Value} (T : Top K mg) : Binds K T.fd_Books_purse_of ["self", "name"] [] := T.d_Books_purse_of.b
theorem Top.mt_Books_purse_of {K : PySem.W.Frag} {mg : Str → Option Value} (T : Top K mg) : Meth K T.f_Books "purse_of" T.f_Books_purse_of := T.d_Books_purse_of.mt
abbrev Top.f_Books_table_of {K : PySem.W.Frag} {mg : Str → Option Value} (T : Top K mg) : Addr := T.d_Books_table_of.f
abbrev Top.fd_Books_table_of {K : PySem.W.Frag} {mg : Str → Option Value} (T : Top K mg) : FuncData := T.d_Books_table_of.fd
theorem Top.F_Books_table_of {K : PySem.W.Frag} {mg : Str → Option Value} (T : Top K mg) : Fun K "table_of" "Books.table_of" s_Books_table_of T.f_Books_table_of T.fd_Books_table_of := T.d_Books_table_of.F
theorem Top.b_Books_table_of {K : PySem.W.Frag} {mg : Str → Option Value} (T : Top K mg) : Binds K T.fd_Books_table_of ["self", "circle"] [] := T.d_Books_table_of.b
theorem Top.mt_Books_table_of {K : PySem.W.Frag} {mg : Str → Option Value} (T : Top K mg) : Meth K T.f_Books "table_of" T.f_Books_table_of := T.d_Books_table_of.mt
abbrev Top.f_Books_brought {K : PySem.W.Frag} {mg : Str → Option Value} (T : Top K mg) : Addr := T.d_Books_brought.f
abbrev Top.fd_Books_brought {K : PySem.W.Frag} {mg : Str → Option Value} (T : Top K mg) : FuncData := T.d_Books_brought.fd
theorem Top.F_Books_brought {K : PySem.W.Frag} {mg : Str → Option Value} (T : Top K mg) : Fun K "brought" "Books.brought" s_Books_brought T.f_Books_brought T.fd_Books_brought := T.d_Books_brought.F
theorem Top.b_Books_brought {K : PySem.W.Frag} {mg : Str → Option Value} (T : Top K mg) : Binds K T.fd_Books_brought ["self"] [] := T.d_Books_brought.b
theorem Top.mt_Books_brought {K : PySem.W.Frag} {mg : Str → Option Value} (T : Top K mg) : Meth K T.f_Books "brought" T.f_Books_brought := T.d_Books_brought.mt
abbrev Top.f_Books_member_names {K : PySem.W.Frag} {mg : Str → Option Value} (T : Top K mg) : Addr := T.d_Books_member_names.f
abbrev Top.fd_Books_member_names {K : PySem.W.Frag} {mg : Str → Option Value} (T : Top K mg) : FuncData := T.d_Books_member_names.fd
theorem Top.F_Books_member_names {K : PySem.W.Frag} {mg : Str → Option Value} (T : Top K mg) : Fun K "member_names" "Books.member_names" s_Books_member_names T.f_Books_member_names T.fd_Books_member_names := T.d_Books_member_names.F
theorem Top.b_Books_member_names {K : PySem.W.Frag} {mg : Str → Option Value} (T : Top K mg) : Binds K T.fd_Books_member_names ["self"] [] := T.d_Books_member_names.b
theorem Top.mt_Books_member_names {K : PySem.W.Frag} {mg : Str → Option Value} (T : Top K mg) : Meth K T.f_Books "member_names" T.f_Books_member_names := T.d_Books_member_names.mt
abbrev Top.f_Books_table_names {K : PySem.W.Frag} {mg : Str → Option Value} (T : Top K mg) : Addr := T.d_Books_table_names.f
abbrev Top.fd_Books_table_names {K : PySem.W.Frag} {mg : Str → Option Value} (T : Top K mg) : FuncData := T.d_Books_table_names.fd
theorem Top.F_Books_table_names {K : PySem.W.Frag} {mg : Str → Option Value} (T : Top K mg) : Fun K "table_names" "Books.table_names" s_Books_table_names T.f_Books_table_names T.fd_Books_table_names := T.d_Books_table_names.F
theorem Top.b_Books_table_names {K : PySem.W.Frag} {mg : Str → Option Value} (T : Top K mg) : Binds K T.fd_Books_table_names ["self"] [] := T.d_Books_table_names.b
theorem Top.mt_Books_table_names {K : PySem.W.Frag} {mg : Str → Option Value} (T : Top K mg) : Meth K T.f_Books "table_names" T.f_Books_table_names := T.d_Books_table_names.mt
abbrev Top.f_Books_all_tables {K : PySem.W.Frag} {mg : Str → Option Value} (T : Top K mg) : Addr := T.d_Books_all_tables.f
abbrev Top.fd_Books_all_tables {K : PySem.W.Frag} {mg : Str → Option Value} (T : Top K mg) : FuncData := T.d_Books_all_tables.fd
theorem Top.F_Books_all_tables {K : PySem.W.Frag} {mg : Str → Option Value} (T : Top K mg) : Fun K "all_tables" "Books.all_tables" s_Books_all_tables T.f_Books_all_tables T.fd_Books_all_tables := T.d_Books_all_tables.F
theorem Top.b_Books_all_tables {K : PySem.W.Frag} {mg : Str → Option Value} (T : Top K mg) : Binds K T.fd_Books_all_tables ["self"] [] := T.d_Books_all_tables.b
theorem Top.mt_Books_all_tables {K : PySem.W.Frag} {mg : Str → Option Value} (T : Top K mg) : Meth K T.f_Books "all_tables" T.f_Books_all_tables := T.d_Books_all_tables.mt
abbrev Top.f_Books_add_member {K : PySem.W.Frag} {mg : Str → Option Value} (T : Top K mg) : Addr := T.d_Books_add_member.f
abbrev Top.fd_Books_add_member {K : PySem.W.Frag} {mg : Str → Option Value} (T : Top K mg) : FuncData := T.d_Books_add_member.fd
theorem Top.F_Books_add_member {K : PySem.W.Frag} {mg : Str → Option Value} (T : Top K mg) : Fun K "add_member" "Books.add_member" s_Books_add_member T.f_Books_add_member T.fd_Books_add_member := T.d_Books_add_member.F
theorem Top.b_Books_add_member {K : PySem.W.Frag} {mg : Str → Option Value} (T : Top K mg) : Binds K T.fd_Books_add_member ["self", "name"] [] := T.d_Books_add_member.b
theorem Top.mt_Books_add_member {K : PySem.W.Frag} {mg : Str → Option Value} (T : Top K mg) : Meth K T.f_Books "add_member" T.f_Books_add_member := T.d_Books_add_member.mt
abbrev Top.f_Books_drop_member {K : PySem.W.Frag} {mg : Str → Option Value} (T : Top K mg) : Addr := T.d_Books_drop_member.f
abbrev Top.fd_Books_drop_member {K : PySem.W.Frag} {mg : Str → Option Value} (T : Top K mg) : FuncData := T.d_Books_drop_member.fd
theorem Top.F_Books_drop_member {K : PySem.W.Frag} {mg : Str → Option Value} (T : Top K mg) : Fun K "drop_member" "Books.drop_member" s_Books_drop_member T.f_Books_drop_member T.fd_Books_drop_member := T.d_Books_drop_member.F
theorem Top.b_Books_drop_member {K : PySem.W.Frag} {mg : Str → Option Value} (T : Top K mg) : Binds K T.fd_Books_drop_member ["self", "name"] [] := T.d_Books_drop_member.b
theorem Top.mt_Books_drop_member {K : PySem.W.Frag} {mg : Str → Option Value} (T : Top K mg) : Meth K T.f_Books "drop_member" T.f_Books_drop_member := T.d_Books_drop_member.mt
abbrev Top.f_Books_put_table {K : PySem.W.Frag} {mg : Str → Option Value} (T : Top K mg) : Addr := T.d_Books_put_table.f
abbrev Top.fd_Books_put_table {K : PySem.W.Frag} {mg : Str → Option Value} (T : Top K mg) : FuncData := T.d_Books_put_table.fd
theorem Top.F_Books_put_table {K : PySem.W.Frag} {mg : Str → Option Value} (T : Top K mg) : Fun K "put_table" "Books.put_table" s_Books_put_table T.f_Books_put_table T.fd_Books_put_table := T.d_Books_put_table.F
theorem Top.b_Books_put_table {K : PySem.W.Frag} {mg : Str → Option Value} (T : Top K mg) : Binds K T.fd_Books_put_table ["self", "circle", "table"] [] := T.d_Books_put_table.b
theorem Top.mt_Books_put_table {K : PySem.W.Frag} {mg : Str → Option Value} (T : Top K mg) : Meth K T.f_Books "put_table" T.f_Books_put_table := T.d_Books_put_table.mt
abbrev Top.f_Books_add_coins {K : PySem.W.Frag} {mg : Str → Option Value} (T : Top K mg) : Addr := T.d_Books_add_coins.f
abbrev Top.fd_Books_add_coins {K : PySem.W.Frag} {mg : Str → Option Value} (T : Top K mg) : FuncData := T.d_Books_add_coins.fd
theorem Top.F_Books_add_coins {K : PySem.W.Frag} {mg : Str → Option Value} (T : Top K mg) : Fun K "add_coins" "Books.add_coins" s_Books_add_coins T.f_Books_add_coins T.fd_Books_add_coins := T.d_Books_add_coins.F
theorem Top.b_Books_add_coins {K : PySem.W.Frag} {mg : Str → Option Value} (T : Top K mg) : Binds K T.fd_Books_add_coins ["self", "name", "coins"] [] := T.d_Books_add_coins.b
theorem Top.mt_Books_add_coins {K : PySem.W.Frag} {mg : Str → Option Value} (T : Top K mg) : Meth K T.f_Books "add_coins" T.f_Books_add_coins := T.d_Books_add_coins.mt
abbrev Top.f_Books_add_brought {K : PySem.W.Frag} {mg : Str → Option Value} (T : Top K mg) : Addr := T.d_Books_add_brought.f
abbrev Top.fd_Books_add_brought {K : PySem.W.Frag} {mg : Str → Option Value} (T : Top K mg) : FuncData := T.d_Books_add_brought.fd
theorem Top.F_Books_add_brought {K : PySem.W.Frag} {mg : Str → Option Value} (T : Top K mg) : Fun K "add_brought" "Books.add_brought" s_Books_add_brought T.f_Books_add_brought T.fd_Books_add_brought := T.d_Books_add_brought.F
theorem Top.b_Books_add_brought {K : PySem.W.Frag} {mg : Str → Option Value} (T : Top K mg) : Binds K T.fd_Books_add_brought ["self", "coins"] [] := T.d_Books_add_brought.b
theorem Top.mt_Books_add_brought {K : PySem.W.Frag} {mg : Str → Option Value} (T : Top K mg) : Meth K T.f_Books "add_brought" T.f_Books_add_brought := T.d_Books_add_brought.mt
abbrev Top.f_Books_refuse_short {K : PySem.W.Frag} {mg : Str → Option Value} (T : Top K mg) : Addr := T.d_Books_refuse_short.f
abbrev Top.fd_Books_refuse_short {K : PySem.W.Frag} {mg : Str → Option Value} (T : Top K mg) : FuncData := T.d_Books_refuse_short.fd
theorem Top.F_Books_refuse_short {K : PySem.W.Frag} {mg : Str → Option Value} (T : Top K mg) : Fun K "refuse_short" "Books.refuse_short" s_Books_refuse_short T.f_Books_refuse_short T.fd_Books_refuse_short := T.d_Books_refuse_short.F
theorem Top.b_Books_refuse_short {K : PySem.W.Frag} {mg : Str → Option Value} (T : Top K mg) : Binds K T.fd_Books_refuse_short ["self", "name", "coins"] [] := T.d_Books_refuse_short.b
theorem Top.mt_Books_refuse_short {K : PySem.W.Frag} {mg : Str → Option Value} (T : Top K mg) : Meth K T.f_Books "refuse_short" T.f_Books_refuse_short := T.d_Books_refuse_short.mt
abbrev Top.f_Books_twin {K : PySem.W.Frag} {mg : Str → Option Value} (T : Top K mg) : Addr := T.d_Books_twin.f
abbrev Top.fd_Books_twin {K : PySem.W.Frag} {mg : Str → Option Value} (T : Top K mg) : FuncData := T.d_Books_twin.fd
theorem Top.F_Books_twin {K : PySem.W.Frag} {mg : Str → Option Value} (T : Top K mg) : Fun K "twin" "Books.twin" s_Books_twin T.f_Books_twin T.fd_Books_twin := T.d_Books_twin.F
theorem Top.b_Books_twin {K : PySem.W.Frag} {mg : Str → Option Value} (T : Top K mg) : Binds K T.fd_Books_twin ["self"] [] := T.d_Books_twin.b
theorem Top.mt_Books_twin {K : PySem.W.Frag} {mg : Str → Option Value} (T : Top K mg) : Meth K T.f_Books "twin" T.f_Books_twin := T.d_Books_twin.mt
abbrev Top.f_set_down {K : PySem.W.Frag} {mg : Str → Option Value} (T : Top K mg) : Addr := T.d_set_down.f
abbrev Top.fd_set_down {K : PySem.W.Frag} {mg : Str → Option Value} (T : Top K mg) : FuncData := T.d_set_down.fd
theorem Top.F_set_down {K : PySem.W.Frag} {mg : Str → Option Value} (T : Top K mg) : Fun K "set_down" "set_down" s_set_down T.f_set_down T.fd_set_down := T.d_set_down.F
theorem Top.b_set_down {K : PySem.W.Frag} {mg : Str → Option Value} (T : Top K mg) : Binds K T.fd_set_down ["shelf", "name", "thing"] [] := T.d_set_down.b
abbrev Top.f_first_covered {K : PySem.W.Frag} {mg : Str → Option Value} (T : Top K mg) : Addr := T.d_first_covered.f
abbrev Top.fd_first_covered {K : PySem.W.Frag} {mg : Str → Option Value} (T : Top K mg) : FuncData := T.d_first_covered.fd
theorem Top.F_first_covered {K : PySem.W.Frag} {mg : Str → Option Value} (T : Top K mg) : Fun K "first_covered" "first_covered" s_first_covered T.f_first_covered T.fd_first_covered := T.d_first_covered.F
theorem Top.b_first_covered {K : PySem.W.Frag} {mg : Str → Option Value} (T : Top K mg) : Binds K T.fd_first_covered ["stake", "seats", "pledge"] [] := T.d_first_covered.b
abbrev Top.f_is_covered {K : PySem.W.Frag} {mg : Str → Option Value} (T : Top K mg) : Addr := T.d_is_covered.f
abbrev Top.fd_is_covered {K : PySem.W.Frag} {mg : Str → Option Value} (T : Top K mg) : FuncData := T.d_is_covered.fd
theorem Top.F_is_covered {K : PySem.W.Frag} {mg : Str → Option Value} (T : Top K mg) : Fun K "is_covered" "is_covered" s_is_covered T.f_is_covered T.fd_is_covered := T.d_is_covered.F
theorem Top.b_is_covered {K : PySem.W.Frag} {mg : Str → Option Value} (T : Top K mg) : Binds K T.fd_is_covered ["stake", "seats", "pledge", "turn"] [] := T.d_is_covered.b
abbrev Top.f_within {K : PySem.W.Frag} {mg : Str → Option Value} (T : Top K mg) : Addr := T.d_within.f
abbrev Top.fd_within {K : PySem.W.Frag} {mg : Str → Option Value} (T : Top K mg) : FuncData := T.d_within.fd
theorem Top.F_within {K : PySem.W.Frag} {mg : Str → Option Value} (T : Top K mg) : Fun K "within" "within" s_within T.f_within T.fd_within := T.d_within.F
theorem Top.b_within {K : PySem.W.Frag} {mg : Str → Option Value} (T : Top K mg) : Binds K T.fd_within ["windows", "a", "b"] [] := T.d_within.b
abbrev Top.f_order_or_bar {K : PySem.W.Frag} {mg : Str → Option Value} (T : Top K mg) : Addr := T.d_order_or_bar.f
abbrev Top.fd_order_or_bar {K : PySem.W.Frag} {mg : Str → Option Value} (T : Top K mg) : FuncData := T.d_order_or_bar.fd
theorem Top.F_order_or_bar {K : PySem.W.Frag} {mg : Str → Option Value} (T : Top K mg) : Fun K "order_or_bar" "order_or_bar" s_order_or_bar T.f_order_or_bar T.fd_order_or_bar := T.d_order_or_bar.F
theorem Top.b_order_or_bar {K : PySem.W.Frag} {mg : Str → Option Value} (T : Top K mg) : Binds K T.fd_order_or_bar ["windows"] [] := T.d_order_or_bar.b
abbrev Top.f_told_order {K : PySem.W.Frag} {mg : Str → Option Value} (T : Top K mg) : Addr := T.d_told_order.f
abbrev Top.fd_told_order {K : PySem.W.Frag} {mg : Str → Option Value} (T : Top K mg) : FuncData := T.d_told_order.fd
theorem Top.F_told_order {K : PySem.W.Frag} {mg : Str → Option Value} (T : Top K mg) : Fun K "told_order" "told_order" s_told_order T.f_told_order T.fd_told_order := T.d_told_order.F
theorem Top.b_told_order {K : PySem.W.Frag} {mg : Str → Option Value} (T : Top K mg) : Binds K T.fd_told_order ["windows"] [] := T.d_told_order.b
abbrev Top.f_fullest_span {K : PySem.W.Frag} {mg : Str → Option Value} (T : Top K mg) : Addr := T.d_fullest_span.f
abbrev Top.fd_fullest_span {K : PySem.W.Frag} {mg : Str → Option Value} (T : Top K mg) : FuncData := T.d_fullest_span.fd
theorem Top.F_fullest_span {K : PySem.W.Frag} {mg : Str → Option Value} (T : Top K mg) : Fun K "fullest_span" "fullest_span" s_fullest_span T.f_fullest_span T.fd_fullest_span := T.d_fullest_span.F
theorem Top.b_fullest_span {K : PySem.W.Frag} {mg : Str → Option Value} (T : Top K mg) : Binds K T.fd_fullest_span ["windows"] [] := T.d_fullest_span.b
abbrev Top.f_surplus {K : PySem.W.Frag} {mg : Str → Option Value} (T : Top K mg) : Addr := T.d_surplus.f
abbrev Top.fd_surplus {K : PySem.W.Frag} {mg : Str → Option Value} (T : Top K mg) : FuncData := T.d_surplus.fd
theorem Top.F_surplus {K : PySem.W.Frag} {mg : Str → Option Value} (T : Top K mg) : Fun K "surplus" "surplus" s_surplus T.f_surplus T.fd_surplus := T.d_surplus.F
theorem Top.b_surplus {K : PySem.W.Frag} {mg : Str → Option Value} (T : Top K mg) : Binds K T.fd_surplus ["windows", "a", "b"] [] := T.d_surplus.b
abbrev Top.f_rounds_between {K : PySem.W.Frag} {mg : Str → Option Value} (T : Top K mg) : Addr := T.d_rounds_between.f
abbrev Top.fd_rounds_between {K : PySem.W.Frag} {mg : Str → Option Value} (T : Top K mg) : FuncData := T.d_rounds_between.fd
theorem Top.F_rounds_between {K : PySem.W.Frag} {mg : Str → Option Value} (T : Top K mg) : Fun K "rounds_between" "rounds_between" s_rounds_between T.f_rounds_between T.fd_rounds_between := T.d_rounds_between.F
theorem Top.b_rounds_between {K : PySem.W.Frag} {mg : Str → Option Value} (T : Top K mg) : Binds K T.fd_rounds_between ["a", "b"] [] := T.d_rounds_between.b
abbrev Top.f_Seat___init__ {K : PySem.W.Frag} {mg : Str → Option Value} (T : Top K mg) : Addr := T.d_Seat___init__.f
abbrev Top.fd_Seat___init__ {K : PySem.W.Frag} {mg : Str → Option Value} (T : Top K mg) : FuncData := T.d_Seat___init__.fd
theorem Top.F_Seat___init__ {K : PySem.W.Frag} {mg : Str → Option Value} (T : Top K mg) : Fun K "__init__" "Seat.__init__" s_Seat___init__ T.f_Seat___init__ T.fd_Seat___init__ := T.d_Seat___init__.F
theorem Top.b_Seat___init__ {K : PySem.W.Frag} {mg : Str → Option Value} (T : Top K mg) : Binds K T.fd_Seat___init__ ["self", "pledge"] [] := T.d_Seat___init__.b
abbrev Top.f_Seat_twin {K : PySem.W.Frag} {mg : Str → Option Value} (T : Top K mg) : Addr := T.d_Seat_twin.f
abbrev Top.fd_Seat_twin {K : PySem.W.Frag} {mg : Str → Option Value} (T : Top K mg) : FuncData := T.d_Seat_twin.fd
theorem Top.F_Seat_twin {K : PySem.W.Frag} {mg : Str → Option Value} (T : Top K mg) : Fun K "twin" "Seat.twin" s_Seat_twin T.f_Seat_twin T.fd_Seat_twin := T.d_Seat_twin.F
theorem Top.b_Seat_twin {K : PySem.W.Frag} {mg : Str → Option Value} (T : Top K mg) : Binds K T.fd_Seat_twin ["self"] [] := T.d_Seat_twin.b
theorem Top.mt_Seat_twin {K : PySem.W.Frag} {mg : Str → Option Value} (T : Top K mg) : Meth K T.f_Seat "twin" T.f_Seat_twin := T.d_Seat_twin.mt
abbrev Top.f_Circle___init__ {K : PySem.W.Frag} {mg : Str → Option Value} (T : Top K mg) : Addr := T.d_Circle___init__.f
abbrev Top.fd_Circle___init__ {K : PySem.W.Frag} {mg : Str → Option Value} (T : Top K mg) : FuncData := T.d_Circle___init__.fd
theorem Top.F_Circle___init__ {K : PySem.W.Frag} {mg : Str → Option Value} (T : Top K mg) : FunD K "__init__" "Circle.__init__" (defArgs s_Circle___init__) (defBody s_Circle___init__) (defScope s_Circle___init__) [.bl false] [] T.f_Circle___init__ T.fd_Circle___init__ := T.d_Circle___init__.F
theorem Top.bd_Circle___init__ {K : PySem.W.Frag} {mg : Str → Option Value} (T : Top K mg) : ∃ ds, Vals [.bl false] ds ∧ Binds K T.fd_Circle___init__ ["self", "stake", "pledges", "wishes", "bidding"] ds := T.d_Circle___init__.bd
theorem Top.b_Circle___init__ {K : PySem.W.Frag} {mg : Str → Option Value} (T : Top K mg) : Binds K T.fd_Circle___init__ ["self", "stake", "pledges", "wishes", "bidding"] [] := T.d_Circle___init__.b
abbrev Top.f_Circle_turn {K : PySem.W.Frag} {mg : Str → Option Value} (T : Top K mg) : Addr := T.d_Circle_turn.f
abbrev Top.fd_Circle_turn {K : PySem.W.Frag} {mg : Str → Option Value} (T : Top K mg) : FuncData := T.d_Circle_turn.fd
theorem Top.F_Circle_turn {K : PySem.W.Frag} {mg : Str → Option Value} (T : Top K mg) : Fun K "turn" "Circle.turn" s_Circle_turn T.f_Circle_turn T.fd_Circle_turn := T.d_Circle_turn.F
theorem Top.b_Circle_turn {K : PySem.W.Frag} {mg : Str → Option Value} (T : Top K mg) : Binds K T.fd_Circle_turn ["self"] [] := T.d_Circle_turn.b
theorem Top.mt_Circle_turn {K : PySem.W.Frag} {mg : Str → Option Value} (T : Top K mg) : Meth K T.f_Circle "turn" T.f_Circle_turn := T.d_Circle_turn.mt
abbrev Top.f_Circle_ended {K : PySem.W.Frag} {mg : Str → Option Value} (T : Top K mg) : Addr := T.d_Circle_ended.f
abbrev Top.fd_Circle_ended {K : PySem.W.Frag} {mg : Str → Option Value} (T : Top K mg) : FuncData := T.d_Circle_ended.fd
theorem Top.F_Circle_ended {K : PySem.W.Frag} {mg : Str → Option Value} (T : Top K mg) : Fun K "ended" "Circle.ended" s_Circle_ended T.f_Circle_ended T.fd_Circle_ended := T.d_Circle_ended.F
theorem Top.b_Circle_ended {K : PySem.W.Frag} {mg : Str → Option Value} (T : Top K mg) : Binds K T.fd_Circle_ended ["self"] [] := T.d_Circle_ended.b
theorem Top.mt_Circle_ended {K : PySem.W.Frag} {mg : Str → Option Value} (T : Top K mg) : Meth K T.f_Circle "ended" T.f_Circle_ended := T.d_Circle_ended.mt
abbrev Top.f_Circle_queue {K : PySem.W.Frag} {mg : Str → Option Value} (T : Top K mg) : Addr := T.d_Circle_queue.f
abbrev Top.fd_Circle_queue {K : PySem.W.Frag} {mg : Str → Option Value} (T : Top K mg) : FuncData := T.d_Circle_queue.fd
theorem Top.F_Circle_queue {K : PySem.W.Frag} {mg : Str → Option Value} (T : Top K mg) : Fun K "queue" "Circle.queue" s_Circle_queue T.f_Circle_queue T.fd_Circle_queue := T.d_Circle_queue.F
theorem Top.b_Circle_queue {K : PySem.W.Frag} {mg : Str → Option Value} (T : Top K mg) : Binds K T.fd_Circle_queue ["self"] [] := T.d_Circle_queue.b
theorem Top.mt_Circle_queue {K : PySem.W.Frag} {mg : Str → Option Value} (T : Top K mg) : Meth K T.f_Circle "queue" T.f_Circle_queue := T.d_Circle_queue.mt
abbrev Top.f_Circle_rests {K : PySem.W.Frag} {mg : Str → Option Value} (T : Top K mg) : Addr := T.d_Circle_rests.f
abbrev Top.fd_Circle_rests {K : PySem.W.Frag} {mg : Str → Option Value} (T : Top K mg) : FuncData := T.d_Circle_rests.fd
theorem Top.F_Circle_rests {K : PySem.W.Frag} {mg : Str → Option Value} (T : Top K mg) : Fun K "rests" "Circle.rests" s_Circle_rests T.f_Circle_rests T.fd_Circle_rests := T.d_Circle_rests.F
theorem Top.b_Circle_rests {K : PySem.W.Frag} {mg : Str → Option Value} (T : Top K mg) : Binds K T.fd_Circle_rests ["self"] [] := T.d_Circle_rests.b
theorem Top.mt_Circle_rests {K : PySem.W.Frag} {mg : Str → Option Value} (T : Top K mg) : Meth K T.f_Circle "rests" T.f_Circle_rests := T.d_Circle_rests.mt
abbrev Top.f_Circle_box {K : PySem.W.Frag} {mg : Str → Option Value} (T : Top K mg) : Addr := T.d_Circle_box.f
abbrev Top.fd_Circle_box {K : PySem.W.Frag} {mg : Str → Option Value} (T : Top K mg) : FuncData := T.d_Circle_box.fd
theorem Top.F_Circle_box {K : PySem.W.Frag} {mg : Str → Option Value} (T : Top K mg) : Fun K "box" "Circle.box" s_Circle_box T.f_Circle_box T.fd_Circle_box := T.d_Circle_box.F
theorem Top.b_Circle_box {K : PySem.W.Frag} {mg : Str → Option Value} (T : Top K mg) : Binds K T.fd_Circle_box ["self"] [] := T.d_Circle_box.b
theorem Top.mt_Circle_box {K : PySem.W.Frag} {mg : Str → Option Value} (T : Top K mg) : Meth K T.f_Circle "box" T.f_Circle_box := T.d_Circle_box.mt
abbrev Top.f_Circle_pot {K : PySem.W.Frag} {mg : Str → Option Value} (T : Top K mg) : Addr := T.d_Circle_pot.f
abbrev Top.fd_Circle_pot {K : PySem.W.Frag} {mg : Str → Option Value} (T : Top K mg) : FuncData := T.d_Circle_pot.fd
theorem Top.F_Circle_pot {K : PySem.W.Frag} {mg : Str → Option Value} (T : Top K mg) : Fun K "pot" "Circle.pot" s_Circle_pot T.f_Circle_pot T.fd_Circle_pot := T.d_Circle_pot.F
theorem Top.b_Circle_pot {K : PySem.W.Frag} {mg : Str → Option Value} (T : Top K mg) : Binds K T.fd_Circle_pot ["self"] [] := T.d_Circle_pot.b
theorem Top.mt_Circle_pot {K : PySem.W.Frag} {mg : Str → Option Value} (T : Top K mg) : Meth K T.f_Circle "pot" T.f_Circle_pot := T.d_Circle_pot.mt
abbrev Top.f_Circle_seat {K : PySem.W.Frag} {mg : Str → Option Value} (T : Top K mg) : Addr := T.d_Circle_seat.f
abbrev Top.fd_Circle_seat {K : PySem.W.Frag} {mg : Str → Option Value} (T : Top K mg) : FuncData := T.d_Circle_seat.fd
theorem Top.F_Circle_seat {K : PySem.W.Frag} {mg : Str → Option Value} (T : Top K mg) : Fun K "seat" "Circle.seat" s_Circle_seat T.f_Circle_seat T.fd_Circle_seat := T.d_Circle_seat.F
theorem Top.b_Circle_seat {K : PySem.W.Frag} {mg : Str → Option Value} (T : Top K mg) : Binds K T.fd_Circle_seat ["self", "at"] [] := T.d_Circle_seat.b
theorem Top.mt_Circle_seat {K : PySem.W.Frag} {mg : Str → Option Value} (T : Top K mg) : Meth K T.f_Circle "seat" T.f_Circle_seat := T.d_Circle_seat.mt
abbrev Top.f_Circle_expected {K : PySem.W.Frag} {mg : Str → Option Value} (T : Top K mg) : Addr := T.d_Circle_expected.f
abbrev Top.fd_Circle_expected {K : PySem.W.Frag} {mg : Str → Option Value} (T : Top K mg) : FuncData := T.d_Circle_expected.fd
theorem Top.F_Circle_expected {K : PySem.W.Frag} {mg : Str → Option Value} (T : Top K mg) : Fun K "expected" "Circle.expected" s_Circle_expected T.f_Circle_expected T.fd_Circle_expected := T.d_Circle_expected.F
theorem Top.b_Circle_expected {K : PySem.W.Frag} {mg : Str → Option Value} (T : Top K mg) : Binds K T.fd_Circle_expected ["self", "at"] [] := T.d_Circle_expected.b
theorem Top.mt_Circle_expected {K : PySem.W.Frag} {mg : Str → Option Value} (T : Top K mg) : Meth K T.f_Circle "expected" T.f_Circle_expected := T.d_Circle_expected.mt
abbrev Top.f_Circle_close {K : PySem.W.Frag} {mg : Str → Option Value} (T : Top K mg) : Addr := T.d_Circle_close.f
abbrev Top.fd_Circle_close {K : PySem.W.Frag} {mg : Str → Option Value} (T : Top K mg) : FuncData := T.d_Circle_close.fd
theorem Top.F_Circle_close {K : PySem.W.Frag} {mg : Str → Option Value} (T : Top K mg) : Fun K "close" "Circle.close" s_Circle_close T.f_Circle_close T.fd_Circle_close := T.d_Circle_close.F
theorem Top.b_Circle_close {K : PySem.W.Frag} {mg : Str → Option Value} (T : Top K mg) : Binds K T.fd_Circle_close ["self", "paid", "bids"] [] := T.d_Circle_close.b
theorem Top.mt_Circle_close {K : PySem.W.Frag} {mg : Str → Option Value} (T : Top K mg) : Meth K T.f_Circle "close" T.f_Circle_close := T.d_Circle_close.mt
abbrev Top.f_Circle_lay {K : PySem.W.Frag} {mg : Str → Option Value} (T : Top K mg) : Addr := T.d_Circle_lay.f
abbrev Top.fd_Circle_lay {K : PySem.W.Frag} {mg : Str → Option Value} (T : Top K mg) : FuncData := T.d_Circle_lay.fd
theorem Top.F_Circle_lay {K : PySem.W.Frag} {mg : Str → Option Value} (T : Top K mg) : Fun K "lay" "Circle.lay" s_Circle_lay T.f_Circle_lay T.fd_Circle_lay := T.d_Circle_lay.F
theorem Top.b_Circle_lay {K : PySem.W.Frag} {mg : Str → Option Value} (T : Top K mg) : Binds K T.fd_Circle_lay ["self", "at", "coins"] [] := T.d_Circle_lay.b
theorem Top.mt_Circle_lay {K : PySem.W.Frag} {mg : Str → Option Value} (T : Top K mg) : Meth K T.f_Circle "lay" T.f_Circle_lay := T.d_Circle_lay.mt
abbrev Top.f_Circle_swap {K : PySem.W.Frag} {mg : Str → Option Value} (T : Top K mg) : Addr := T.d_Circle_swap.f
abbrev Top.fd_Circle_swap {K : PySem.W.Frag} {mg : Str → Option Value} (T : Top K mg) : FuncData := T.d_Circle_swap.fd
theorem Top.F_Circle_swap {K : PySem.W.Frag} {mg : Str → Option Value} (T : Top K mg) : Fun K "swap" "Circle.swap" s_Circle_swap T.f_Circle_swap T.fd_Circle_swap := T.d_Circle_swap.F
theorem Top.b_Circle_swap {K : PySem.W.Frag} {mg : Str → Option Value} (T : Top K mg) : Binds K T.fd_Circle_swap ["self", "at", "other"] [] := T.d_Circle_swap.b
theorem Top.mt_Circle_swap {K : PySem.W.Frag} {mg : Str → Option Value} (T : Top K mg) : Meth K T.f_Circle "swap" T.f_Circle_swap := T.d_Circle_swap.mt
abbrev Top.f_Circle_refunds {K : PySem.W.Frag} {mg : Str → Option Value} (T : Top K mg) : Addr := T.d_Circle_refunds.f
abbrev Top.fd_Circle_refunds {K : PySem.W.Frag} {mg : Str → Option Value} (T : Top K mg) : FuncData := T.d_Circle_refunds.fd
theorem Top.F_Circle_refunds {K : PySem.W.Frag} {mg : Str → Option Value} (T : Top K mg) : Fun K "refunds" "Circle.refunds" s_Circle_refunds T.f_Circle_refunds T.fd_Circle_refunds := T.d_Circle_refunds.F
theorem Top.b_Circle_refunds {K : PySem.W.Frag} {mg : Str → Option Value} (T : Top K mg) : Binds K T.fd_Circle_refunds ["self"] [] := T.d_Circle_refunds.b
theorem Top.mt_Circle_refunds {K : PySem.W.Frag} {mg : Str → Option Value} (T : Top K mg) : Meth K T.f_Circle "refunds" T.f_Circle_refunds := T.d_Circle_refunds.mt
abbrev Top.f_Circle_twin {K : PySem.W.Frag} {mg : Str → Option Value} (T : Top K mg) : Addr := T.d_Circle_twin.f
abbrev Top.fd_Circle_twin {K : PySem.W.Frag} {mg : Str → Option Value} (T : Top K mg) : FuncData := T.d_Circle_twin.fd
theorem Top.F_Circle_twin {K : PySem.W.Frag} {mg : Str → Option Value} (T : Top K mg) : Fun K "twin" "Circle.twin" s_Circle_twin T.f_Circle_twin T.fd_Circle_twin := T.d_Circle_twin.F
theorem Top.b_Circle_twin {K : PySem.W.Frag} {mg : Str → Option Value} (T : Top K mg) : Binds K T.fd_Circle_twin ["self"] [] := T.d_Circle_twin.b
theorem Top.mt_Circle_twin {K : PySem.W.Frag} {mg : Str → Option Value} (T : Top K mg) : Meth K T.f_Circle "twin" T.f_Circle_twin := T.d_Circle_twin.mt
abbrev Top.f_Circle_seat_at {K : PySem.W.Frag} {mg : Str → Option Value} (T : Top K mg) : Addr := T.d_Circle_seat_at.f
abbrev Top.fd_Circle_seat_at {K : PySem.W.Frag} {mg : Str → Option Value} (T : Top K mg) : FuncData := T.d_Circle_seat_at.fd
theorem Top.F_Circle_seat_at {K : PySem.W.Frag} {mg : Str → Option Value} (T : Top K mg) : Fun K "seat_at" "Circle.seat_at" s_Circle_seat_at T.f_Circle_seat_at T.fd_Circle_seat_at := T.d_Circle_seat_at.F
theorem Top.b_Circle_seat_at {K : PySem.W.Frag} {mg : Str → Option Value} (T : Top K mg) : Binds K T.fd_Circle_seat_at ["self", "at"] [] := T.d_Circle_seat_at.b
theorem Top.mt_Circle_seat_at {K : PySem.W.Frag} {mg : Str → Option Value} (T : Top K mg) : Meth K T.f_Circle "seat_at" T.f_Circle_seat_at := T.d_Circle_seat_at.mt
abbrev Top.f_Circle_seats_of {K : PySem.W.Frag} {mg : Str → Option Value} (T : Top K mg) : Addr := T.d_Circle_seats_of.f
abbrev Top.fd_Circle_seats_of {K : PySem.W.Frag} {mg : Str → Option Value} (T : Top K mg) : FuncData := T.d_Circle_seats_of.fd
theorem Top.F_Circle_seats_of {K : PySem.W.Frag} {mg : Str → Option Value} (T : Top K mg) : Fun K "seats_of" "Circle.seats_of" s_Circle_seats_of T.f_Circle_seats_of T.fd_Circle_seats_of := T.d_Circle_seats_of.F
theorem Top.b_Circle_seats_of {K : PySem.W.Frag} {mg : Str → Option Value} (T : Top K mg) : Binds K T.fd_Circle_seats_of ["self", "numbers"] [] := T.d_Circle_seats_of.b
theorem Top.mt_Circle_seats_of {K : PySem.W.Frag} {mg : Str → Option Value} (T : Top K mg) : Meth K T.f_Circle "seats_of" T.f_Circle_seats_of := T.d_Circle_seats_of.mt
abbrev Top.f_Circle_covers {K : PySem.W.Frag} {mg : Str → Option Value} (T : Top K mg) : Addr := T.d_Circle_covers.f
abbrev Top.fd_Circle_covers {K : PySem.W.Frag} {mg : Str → Option Value} (T : Top K mg) : FuncData := T.d_Circle_covers.fd
theorem Top.F_Circle_covers {K : PySem.W.Frag} {mg : Str → Option Value} (T : Top K mg) : Fun K "covers" "Circle.covers" s_Circle_covers T.f_Circle_covers T.fd_Circle_covers := T.d_Circle_covers.F
theorem Top.b_Circle_covers {K : PySem.W.Frag} {mg : Str → Option Value} (T : Top K mg) : Binds K T.fd_Circle_covers ["self", "at", "turn"] [] := T.d_Circle_covers.b
theorem Top.mt_Circle_covers {K : PySem.W.Frag} {mg : Str → Option Value} (T : Top K mg) : Meth K T.f_Circle "covers" T.f_Circle_covers := T.d_Circle_covers.mt
abbrev Top.f_Circle_standings {K : PySem.W.Frag} {mg : Str → Option Value} (T : Top K mg) : Addr := T.d_Circle_standings.f
abbrev Top.fd_Circle_standings {K : PySem.W.Frag} {mg : Str → Option Value} (T : Top K mg) : FuncData := T.d_Circle_standings.fd
theorem Top.F_Circle_standings {K : PySem.W.Frag} {mg : Str → Option Value} (T : Top K mg) : Fun K "standings" "Circle.standings" s_Circle_standings T.f_Circle_standings T.fd_Circle_standings := T.d_Circle_standings.F
theorem Top.b_Circle_standings {K : PySem.W.Frag} {mg : Str → Option Value} (T : Top K mg) : Binds K T.fd_Circle_standings ["self"] [] := T.d_Circle_standings.b
theorem Top.mt_Circle_standings {K : PySem.W.Frag} {mg : Str → Option Value} (T : Top K mg) : Meth K T.f_Circle "standings" T.f_Circle_standings := T.d_Circle_standings.mt
abbrev Top.f_Circle_unpaid {K : PySem.W.Frag} {mg : Str → Option Value} (T : Top K mg) : Addr := T.d_Circle_unpaid.f
abbrev Top.fd_Circle_unpaid {K : PySem.W.Frag} {mg : Str → Option Value} (T : Top K mg) : FuncData := T.d_Circle_unpaid.fd
theorem Top.F_Circle_unpaid {K : PySem.W.Frag} {mg : Str → Option Value} (T : Top K mg) : Fun K "unpaid" "Circle.unpaid" s_Circle_unpaid T.f_Circle_unpaid T.fd_Circle_unpaid := T.d_Circle_unpaid.F
theorem Top.b_Circle_unpaid {K : PySem.W.Frag} {mg : Str → Option Value} (T : Top K mg) : Binds K T.fd_Circle_unpaid ["self", "state", "paid"] [] := T.d_Circle_unpaid.b
theorem Top.mt_Circle_unpaid {K : PySem.W.Frag} {mg : Str → Option Value} (T : Top K mg) : Meth K T.f_Circle "unpaid" T.f_Circle_unpaid := T.d_Circle_unpaid.mt
abbrev Top.f_Circle_refuse_lists {K : PySem.W.Frag} {mg : Str → Option Value} (T : Top K mg) : Addr := T.d_Circle_refuse_lists.f
abbrev Top.fd_Circle_refuse_lists {K : PySem.W.Frag} {mg : Str → Option Value} (T : Top K mg) : FuncData := T.d_Circle_refuse_lists.fd
theorem Top.F_Circle_refuse_lists {K : PySem.W.Frag} {mg : Str → Option Value} (T : Top K mg) : Fun K "refuse_lists" "Circle.refuse_lists" s_Circle_refuse_lists T.f_Circle_refuse_lists T.fd_Circle_refuse_lists := T.d_Circle_refuse_lists.F
theorem Top.b_Circle_refuse_lists {K : PySem.W.Frag} {mg : Str → Option Value} (T : Top K mg) : Binds K T.fd_Circle_refuse_lists ["self", "paid", "bids"] [] := T.d_Circle_refuse_lists.b
theorem Top.mt_Circle_refuse_lists {K : PySem.W.Frag} {mg : Str → Option Value} (T : Top K mg) : Meth K T.f_Circle "refuse_lists" T.f_Circle_refuse_lists := T.d_Circle_refuse_lists.mt
abbrev Top.f_Circle_let_fall {K : PySem.W.Frag} {mg : Str → Option Value} (T : Top K mg) : Addr := T.d_Circle_let_fall.f
abbrev Top.fd_Circle_let_fall {K : PySem.W.Frag} {mg : Str → Option Value} (T : Top K mg) : FuncData := T.d_Circle_let_fall.fd
theorem Top.F_Circle_let_fall {K : PySem.W.Frag} {mg : Str → Option Value} (T : Top K mg) : Fun K "let_fall" "Circle.let_fall" s_Circle_let_fall T.f_Circle_let_fall T.fd_Circle_let_fall := T.d_Circle_let_fall.F
theorem Top.b_Circle_let_fall {K : PySem.W.Frag} {mg : Str → Option Value} (T : Top K mg) : Binds K T.fd_Circle_let_fall ["self", "fallen"] [] := T.d_Circle_let_fall.b
theorem Top.mt_Circle_let_fall {K : PySem.W.Frag} {mg : Str → Option Value} (T : Top K mg) : Meth K T.f_Circle "let_fall" T.f_Circle_let_fall := T.d_Circle_let_fall.mt
abbrev Top.f_Circle_leave_queue {K : PySem.W.Frag} {mg : Str → Option Value} (T : Top K mg) : Addr := T.d_Circle_leave_queue.f
abbrev Top.fd_Circle_leave_queue {K : PySem.W.Frag} {mg : Str → Option Value} (T : Top K mg) : FuncData := T.d_Circle_leave_queue.fd
theorem Top.F_Circle_leave_queue {K : PySem.W.Frag} {mg : Str → Option Value} (T : Top K mg) : Fun K "leave_queue" "Circle.leave_queue" s_Circle_leave_queue T.f_Circle_leave_queue T.fd_Circle_leave_queue := T.d_Circle_leave_queue.F
theorem Top.b_Circle_leave_queue {K : PySem.W.Frag} {mg : Str → Option Value} (T : Top K mg) : Binds K T.fd_Circle_leave_queue ["self", "at", "state"] [] := T.d_Circle_leave_queue.b
theorem Top.mt_Circle_leave_queue {K : PySem.W.Frag} {mg : Str → Option Value} (T : Top K mg) : Meth K T.f_Circle "leave_queue" T.f_Circle_leave_queue := T.d_Circle_leave_queue.mt
abbrev Top.f_Circle_charge_pledges {K : PySem.W.Frag} {mg : Str → Option Value} (T : Top K mg) : Addr := T.d_Circle_charge_pledges.f
abbrev Top.fd_Circle_charge_pledges {K : PySem.W.Frag} {mg : Str → Option Value} (T : Top K mg) : FuncData := T.d_Circle_charge_pledges.fd
theorem Top.F_Circle_charge_pledges {K : PySem.W.Frag} {mg : Str → Option Value} (T : Top K mg) : Fun K "charge_pledges" "Circle.charge_pledges" s_Circle_charge_pledges T.f_Circle_charge_pledges T.fd_Circle_charge_pledges := T.d_Circle_charge_pledges.F
theorem Top.b_Circle_charge_pledges {K : PySem.W.Frag} {mg : Str → Option Value} (T : Top K mg) : Binds K T.fd_Circle_charge_pledges ["self", "pledged"] [] := T.d_Circle_charge_pledges.b
theorem Top.mt_Circle_charge_pledges {K : PySem.W.Frag} {mg : Str → Option Value} (T : Top K mg) : Meth K T.f_Circle "charge_pledges" T.f_Circle_charge_pledges := T.d_Circle_charge_pledges.mt
abbrev Top.f_Circle_collect {K : PySem.W.Frag} {mg : Str → Option Value} (T : Top K mg) : Addr := T.d_Circle_collect.f
abbrev Top.fd_Circle_collect {K : PySem.W.Frag} {mg : Str → Option Value} (T : Top K mg) : FuncData := T.d_Circle_collect.fd
theorem Top.F_Circle_collect {K : PySem.W.Frag} {mg : Str → Option Value} (T : Top K mg) : Fun K "collect" "Circle.collect" s_Circle_collect T.f_Circle_collect T.fd_Circle_collect := T.d_Circle_collect.F
theorem Top.b_Circle_collect {K : PySem.W.Frag} {mg : Str → Option Value} (T : Top K mg) : Binds K T.fd_Circle_collect ["self"] [] := T.d_Circle_collect.b
theorem Top.mt_Circle_collect {K : PySem.W.Frag} {mg : Str → Option Value} (T : Top K mg) : Meth K T.f_Circle "collect" T.f_Circle_collect := T.d_Circle_collect.mt
abbrev Top.f_Circle_rest {K : PySem.W.Frag} {mg : Str → Option Value} (T : Top K mg) : Addr := T.d_Circle_rest.f
abbrev Top.fd_Circle_rest {K : PySem.W.Frag} {mg : Str → Option Value} (T : Top K mg) : FuncData := T.d_Circle_rest.fd
theorem Top.F_Circle_rest {K : PySem.W.Frag} {mg : Str → Option Value} (T : Top K mg) : Fun K "rest" "Circle.rest" s_Circle_rest T.f_Circle_rest T.fd_Circle_rest := T.d_Circle_rest.F
theorem Top.b_Circle_rest {K : PySem.W.Frag} {mg : Str → Option Value} (T : Top K mg) : Binds K T.fd_Circle_rest ["self", "payers"] [] := T.d_Circle_rest.b
theorem Top.mt_Circle_rest {K : PySem.W.Frag} {mg : Str → Option Value} (T : Top K mg) : Meth K T.f_Circle "rest" T.f_Circle_rest := T.d_Circle_rest.mt
abbrev Top.f_Circle_draw {K : PySem.W.Frag} {mg : Str → Option Value} (T : Top K mg) : Addr := T.d_Circle_draw.f
abbrev Top.fd_Circle_draw {K : PySem.W.Frag} {mg : Str → Option Value} (T : Top K mg) : FuncData := T.d_Circle_draw.fd
theorem Top.F_Circle_draw {K : PySem.W.Frag} {mg : Str → Option Value} (T : Top K mg) : Fun K "draw" "Circle.draw" s_Circle_draw T.f_Circle_draw T.fd_Circle_draw := T.d_Circle_draw.F
theorem Top.b_Circle_draw {K : PySem.W.Frag} {mg : Str → Option Value} (T : Top K mg) : Binds K T.fd_Circle_draw ["self", "payers", "bids"] [] := T.d_Circle_draw.b
theorem Top.mt_Circle_draw {K : PySem.W.Frag} {mg : Str → Option Value} (T : Top K mg) : Meth K T.f_Circle "draw" T.f_Circle_draw := T.d_Circle_draw.mt
abbrev Top.f_Circle_best_bid {K : PySem.W.Frag} {mg : Str → Option Value} (T : Top K mg) : Addr := T.d_Circle_best_bid.f
abbrev Top.fd_Circle_best_bid {K : PySem.W.Frag} {mg : Str → Option Value} (T : Top K mg) : FuncData := T.d_Circle_best_bid.fd
theorem Top.F_Circle_best_bid {K : PySem.W.Frag} {mg : Str → Option Value} (T : Top K mg) : Fun K "best_bid" "Circle.best_bid" s_Circle_best_bid T.f_Circle_best_bid T.fd_Circle_best_bid := T.d_Circle_best_bid.F
theorem Top.b_Circle_best_bid {K : PySem.W.Frag} {mg : Str → Option Value} (T : Top K mg) : Binds K T.fd_Circle_best_bid ["self", "bids"] [] := T.d_Circle_best_bid.b
theorem Top.mt_Circle_best_bid {K : PySem.W.Frag} {mg : Str → Option Value} (T : Top K mg) : Meth K T.f_Circle "best_bid" T.f_Circle_best_bid := T.d_Circle_best_bid.mt
abbrev Top.f_refuse_opening {K : PySem.W.Frag} {mg : Str → Option Value} (T : Top K mg) : Addr := T.d_refuse_opening.f
abbrev Top.fd_refuse_opening {K : PySem.W.Frag} {mg : Str → Option Value} (T : Top K mg) : FuncData := T.d_refuse_opening.fd
theorem Top.F_refuse_opening {K : PySem.W.Frag} {mg : Str → Option Value} (T : Top K mg) : Fun K "refuse_opening" "refuse_opening" s_refuse_opening T.f_refuse_opening T.fd_refuse_opening := T.d_refuse_opening.F
theorem Top.b_refuse_opening {K : PySem.W.Frag} {mg : Str → Option Value} (T : Top K mg) : Binds K T.fd_refuse_opening ["stake", "pledges", "wishes"] [] := T.d_refuse_opening.b
abbrev Top.f_first_queue {K : PySem.W.Frag} {mg : Str → Option Value} (T : Top K mg) : Addr := T.d_first_queue.f
abbrev Top.fd_first_queue {K : PySem.W.Frag} {mg : Str → Option Value} (T : Top K mg) : FuncData := T.d_first_queue.fd
theorem Top.F_first_queue {K : PySem.W.Frag} {mg : Str → Option Value} (T : Top K mg) : Fun K "first_queue" "first_queue" s_first_queue T.f_first_queue T.fd_first_queue := T.d_first_queue.F
theorem Top.b_first_queue {K : PySem.W.Frag} {mg : Str → Option Value} (T : Top K mg) : Binds K T.fd_first_queue ["stake", "pledges", "wishes"] [] := T.d_first_queue.b
abbrev Top.f_is_name {K : PySem.W.Frag} {mg : Str → Option Value} (T : Top K mg) : Addr := T.d_is_name.f
abbrev Top.fd_is_name {K : PySem.W.Frag} {mg : Str → Option Value} (T : Top K mg) : FuncData := T.d_is_name.fd
theorem Top.F_is_name {K : PySem.W.Frag} {mg : Str → Option Value} (T : Top K mg) : Fun K "is_name" "is_name" s_is_name T.f_is_name T.fd_is_name := T.d_is_name.F
theorem Top.b_is_name {K : PySem.W.Frag} {mg : Str → Option Value} (T : Top K mg) : Binds K T.fd_is_name ["text"] [] := T.d_is_name.b
abbrev Top.f_Table___init__ {K : PySem.W.Frag} {mg : Str → Option Value} (T : Top K mg) : Addr := T.d_Table___init__.f
abbrev Top.fd_Table___init__ {K : PySem.W.Frag} {mg : Str → Option Value} (T : Top K mg) : FuncData := T.d_Table___init__.fd
theorem Top.F_Table___init__ {K : PySem.W.Frag} {mg : Str → Option Value} (T : Top K mg) : Fun K "__init__" "Table.__init__" s_Table___init__ T.f_Table___init__ T.fd_Table___init__ := T.d_Table___init__.F
theorem Top.b_Table___init__ {K : PySem.W.Frag} {mg : Str → Option Value} (T : Top K mg) : Binds K T.fd_Table___init__ ["self", "sitters", "circle", "payments", "offers", "closed"] [] := T.d_Table___init__.b
abbrev Top.f_Table_seat_of {K : PySem.W.Frag} {mg : Str → Option Value} (T : Top K mg) : Addr := T.d_Table_seat_of.f
abbrev Top.fd_Table_seat_of {K : PySem.W.Frag} {mg : Str → Option Value} (T : Top K mg) : FuncData := T.d_Table_seat_of.fd
theorem Top.F_Table_seat_of {K : PySem.W.Frag} {mg : Str → Option Value} (T : Top K mg) : Fun K "seat_of" "Table.seat_of" s_Table_seat_of T.f_Table_seat_of T.fd_Table_seat_of := T.d_Table_seat_of.F
theorem Top.b_Table_seat_of {K : PySem.W.Frag} {mg : Str → Option Value} (T : Top K mg) : Binds K T.fd_Table_seat_of ["self", "name"] [] := T.d_Table_seat_of.b
theorem Top.mt_Table_seat_of {K : PySem.W.Frag} {mg : Str → Option Value} (T : Top K mg) : Meth K T.f_Table "seat_of" T.f_Table_seat_of := T.d_Table_seat_of.mt
abbrev Top.f_Table_state_of {K : PySem.W.Frag} {mg : Str → Option Value} (T : Top K mg) : Addr := T.d_Table_state_of.f
abbrev Top.fd_Table_state_of {K : PySem.W.Frag} {mg : Str → Option Value} (T : Top K mg) : FuncData := T.d_Table_state_of.fd
theorem Top.F_Table_state_of {K : PySem.W.Frag} {mg : Str → Option Value} (T : Top K mg) : Fun K "state_of" "Table.state_of" s_Table_state_of T.f_Table_state_of T.fd_Table_state_of := T.d_Table_state_of.F
theorem Top.b_Table_state_of {K : PySem.W.Frag} {mg : Str → Option Value} (T : Top K mg) : Binds K T.fd_Table_state_of ["self", "at"] [] := T.d_Table_state_of.b
theorem Top.mt_Table_state_of {K : PySem.W.Frag} {mg : Str → Option Value} (T : Top K mg) : Meth K T.f_Table "state_of" T.f_Table_state_of := T.d_Table_state_of.mt
abbrev Top.f_Table_with_payment {K : PySem.W.Frag} {mg : Str → Option Value} (T : Top K mg) : Addr := T.d_Table_with_payment.f
abbrev Top.fd_Table_with_payment {K : PySem.W.Frag} {mg : Str → Option Value} (T : Top K mg) : FuncData := T.d_Table_with_payment.fd
theorem Top.F_Table_with_payment {K : PySem.W.Frag} {mg : Str → Option Value} (T : Top K mg) : Fun K "with_payment" "Table.with_payment" s_Table_with_payment T.f_Table_with_payment T.fd_Table_with_payment := T.d_Table_with_payment.F
theorem Top.b_Table_with_payment {K : PySem.W.Frag} {mg : Str → Option Value} (T : Top K mg) : Binds K T.fd_Table_with_payment ["self", "at"] [] := T.d_Table_with_payment.b
theorem Top.mt_Table_with_payment {K : PySem.W.Frag} {mg : Str → Option Value} (T : Top K mg) : Meth K T.f_Table "with_payment" T.f_Table_with_payment := T.d_Table_with_payment.mt
abbrev Top.f_Table_with_offer {K : PySem.W.Frag} {mg : Str → Option Value} (T : Top K mg) : Addr := T.d_Table_with_offer.f
abbrev Top.fd_Table_with_offer {K : PySem.W.Frag} {mg : Str → Option Value} (T : Top K mg) : FuncData := T.d_Table_with_offer.fd
theorem Top.F_Table_with_offer {K : PySem.W.Frag} {mg : Str → Option Value} (T : Top K mg) : Fun K "with_offer" "Table.with_offer" s_Table_with_offer T.f_Table_with_offer T.fd_Table_with_offer := T.d_Table_with_offer.F
theorem Top.b_Table_with_offer {K : PySem.W.Frag} {mg : Str → Option Value} (T : Top K mg) : Binds K T.fd_Table_with_offer ["self", "at", "coins"] [] := T.d_Table_with_offer.b
theorem Top.mt_Table_with_offer {K : PySem.W.Frag} {mg : Str → Option Value} (T : Top K mg) : Meth K T.f_Table "with_offer" T.f_Table_with_offer := T.d_Table_with_offer.mt
abbrev Top.f_Table_with_circle {K : PySem.W.Frag} {mg : Str → Option Value} (T : Top K mg) : Addr := T.d_Table_with_circle.f
abbrev Top.fd_Table_with_circle {K : PySem.W.Frag} {mg : Str → Option Value} (T : Top K mg) : FuncData := T.d_Table_with_circle.fd
theorem Top.F_Table_with_circle {K : PySem.W.Frag} {mg : Str → Option Value} (T : Top K mg) : Fun K "with_circle" "Table.with_circle" s_Table_with_circle T.f_Table_with_circle T.fd_Table_with_circle := T.d_Table_with_circle.F
theorem Top.b_Table_with_circle {K : PySem.W.Frag} {mg : Str → Option Value} (T : Top K mg) : Binds K T.fd_Table_with_circle ["self", "circle"] [] := T.d_Table_with_circle.b
theorem Top.mt_Table_with_circle {K : PySem.W.Frag} {mg : Str → Option Value} (T : Top K mg) : Meth K T.f_Table "with_circle" T.f_Table_with_circle := T.d_Table_with_circle.mt
abbrev Top.f_Table_behind_round {K : PySem.W.Frag} {mg : Str → Option Value} (T : Top K mg) : Addr := T.d_Table_behind_round.f
abbrev Top.fd_Table_behind_round {K : PySem.W.Frag} {mg : Str → Option Value} (T : Top K mg) : FuncData := T.d_Table_behind_round.fd
theorem Top.F_Table_behind_round {K : PySem.W.Frag} {mg : Str → Option Value} (T : Top K mg) : Fun K "behind_round" "Table.behind_round" s_Table_behind_round T.f_Table_behind_round T.fd_Table_behind_round := T.d_Table_behind_round.F
theorem Top.b_Table_behind_round {K : PySem.W.Frag} {mg : Str → Option Value} (T : Top K mg) : Binds K T.fd_Table_behind_round ["self", "circle", "report"] [] := T.d_Table_behind_round.b
theorem Top.mt_Table_behind_round {K : PySem.W.Frag} {mg : Str → Option Value} (T : Top K mg) : Meth K T.f_Table "behind_round" T.f_Table_behind_round := T.d_Table_behind_round.mt
abbrev Top.f_Table_told_reports {K : PySem.W.Frag} {mg : Str → Option Value} (T : Top K mg) : Addr := T.d_Table_told_reports.f
abbrev Top.fd_Table_told_reports {K : PySem.W.Frag} {mg : Str → Option Value} (T : Top K mg) : FuncData := T.d_Table_told_reports.fd
theorem Top.F_Table_told_reports {K : PySem.W.Frag} {mg : Str → Option Value} (T : Top K mg) : Fun K "told_reports" "Table.told_reports" s_Table_told_reports T.f_Table_told_reports T.fd_Table_told_reports := T.d_Table_told_reports.F
theorem Top.b_Table_told_reports {K : PySem.W.Frag} {mg : Str → Option Value} (T : Top K mg) : Binds K T.fd_Table_told_reports ["self"] [] := T.d_Table_told_reports.b
theorem Top.mt_Table_told_reports {K : PySem.W.Frag} {mg : Str → Option Value} (T : Top K mg) : Meth K T.f_Table "told_reports" T.f_Table_told_reports := T.d_Table_told_reports.mt
abbrev Top.f_Table_holdings {K : PySem.W.Frag} {mg : Str → Option Value} (T : Top K mg) : Addr := T.d_Table_holdings.f
abbrev Top.fd_Table_holdings {K : PySem.W.Frag} {mg : Str → Option Value} (T : Top K mg) : FuncData := T.d_Table_holdings.fd
theorem Top.F_Table_holdings {K : PySem.W.Frag} {mg : Str → Option Value} (T : Top K mg) : Fun K "holdings" "Table.holdings" s_Table_holdings T.f_Table_holdings T.fd_Table_holdings := T.d_Table_holdings.F
theorem Top.b_Table_holdings {K : PySem.W.Frag} {mg : Str → Option Value} (T : Top K mg) : Binds K T.fd_Table_holdings ["self"] [] := T.d_Table_holdings.b
theorem Top.mt_Table_holdings {K : PySem.W.Frag} {mg : Str → Option Value} (T : Top K mg) : Meth K T.f_Table "holdings" T.f_Table_holdings := T.d_Table_holdings.mt
abbrev Top.f_Table_payouts {K : PySem.W.Frag} {mg : Str → Option Value} (T : Top K mg) : Addr := T.d_Table_payouts.f
abbrev Top.fd_Table_payouts {K : PySem.W.Frag} {mg : Str → Option Value} (T : Top K mg) : FuncData := T.d_Table_payouts.fd
theorem Top.F_Table_payouts {K : PySem.W.Frag} {mg : Str → Option Value} (T : Top K mg) : Fun K "payouts" "Table.payouts" s_Table_payouts T.f_Table_payouts T.fd_Table_payouts := T.d_Table_payouts.F
theorem Top.b_Table_payouts {K : PySem.W.Frag} {mg : Str → Option Value} (T : Top K mg) : Binds K T.fd_Table_payouts ["self"] [] := T.d_Table_payouts.b
theorem Top.mt_Table_payouts {K : PySem.W.Frag} {mg : Str → Option Value} (T : Top K mg) : Meth K T.f_Table "payouts" T.f_Table_payouts := T.d_Table_payouts.mt
abbrev Top.f_opened_table {K : PySem.W.Frag} {mg : Str → Option Value} (T : Top K mg) : Addr := T.d_opened_table.f
abbrev Top.fd_opened_table {K : PySem.W.Frag} {mg : Str → Option Value} (T : Top K mg) : FuncData := T.d_opened_table.fd
theorem Top.F_opened_table {K : PySem.W.Frag} {mg : Str → Option Value} (T : Top K mg) : Fun K "opened_table" "opened_table" s_opened_table T.f_opened_table T.fd_opened_table := T.d_opened_table.F
theorem Top.b_opened_table {K : PySem.W.Frag} {mg : Str → Option Value} (T : Top K mg) : Binds K T.fd_opened_table ["sitters", "circle", "closed"] [] := T.d_opened_table.b
abbrev Top.f_report_copy {K : PySem.W.Frag} {mg : Str → Option Value} (T : Top K mg) : Addr := T.d_report_copy.f
abbrev Top.fd_report_copy {K : PySem.W.Frag} {mg : Str → Option Value} (T : Top K mg) : FuncData := T.d_report_copy.fd
theorem Top.F_report_copy {K : PySem.W.Frag} {mg : Str → Option Value} (T : Top K mg) : Fun K "report_copy" "report_copy" s_report_copy T.f_report_copy T.fd_report_copy := T.d_report_copy.F
theorem Top.b_report_copy {K : PySem.W.Frag} {mg : Str → Option Value} (T : Top K mg) : Binds K T.fd_report_copy ["report"] [] := T.d_report_copy.b
abbrev Top.f_enter {K : PySem.W.Frag} {mg : Str → Option Value} (T : Top K mg) : Addr := T.d_enter.f
abbrev Top.fd_enter {K : PySem.W.Frag} {mg : Str → Option Value} (T : Top K mg) : FuncData := T.d_enter.fd
theorem Top.F_enter {K : PySem.W.Frag} {mg : Str → Option Value} (T : Top K mg) : Fun K "enter" "enter" s_enter T.f_enter T.fd_enter := T.d_enter.F
theorem Top.b_enter {K : PySem.W.Frag} {mg : Str → Option Value} (T : Top K mg) : Binds K T.fd_enter ["books", "name"] [] := T.d_enter.b
abbrev Top.f_part {K : PySem.W.Frag} {mg : Str → Option Value} (T : Top K mg) : Addr := T.d_part.f
abbrev Top.fd_part {K : PySem.W.Frag} {mg : Str → Option Value} (T : Top K mg) : FuncData := T.d_part.fd
theorem Top.F_part {K : PySem.W.Frag} {mg : Str → Option Value} (T : Top K mg) : Fun K "part" "part" s_part T.f_part T.fd_part := T.d_part.F
theorem Top.b_part {K : PySem.W.Frag} {mg : Str → Option Value} (T : Top K mg) : Binds K T.fd_part ["books", "name"] [] := T.d_part.b
abbrev Top.f_bring {K : PySem.W.Frag} {mg : Str → Option Value} (T : Top K mg) : Addr := T.d_bring.f
abbrev Top.fd_bring {K : PySem.W.Frag} {mg : Str → Option Value} (T : Top K mg) : FuncData := T.d_bring.fd
theorem Top.F_bring {K : PySem.W.Frag} {mg : Str → Option Value} (T : Top K mg) : Fun K "bring" "bring" s_bring T.f_bring T.fd_bring := T.d_bring.F
theorem Top.b_bring {K : PySem.W.Frag} {mg : Str → Option Value} (T : Top K mg) : Binds K T.fd_bring ["books", "name", "coins"] [] := T.d_bring.b
abbrev Top.f_take {K : PySem.W.Frag} {mg : Str → Option Value} (T : Top K mg) : Addr := T.d_take.f
abbrev Top.fd_take {K : PySem.W.Frag} {mg : Str → Option Value} (T : Top K mg) : FuncData := T.d_take.fd
theorem Top.F_take {K : PySem.W.Frag} {mg : Str → Option Value} (T : Top K mg) : Fun K "take" "take" s_take T.f_take T.fd_take := T.d_take.F
theorem Top.b_take {K : PySem.W.Frag} {mg : Str → Option Value} (T : Top K mg) : Binds K T.fd_take ["books", "name", "coins"] [] := T.d_take.b
abbrev Top.f_found {K : PySem.W.Frag} {mg : Str → Option Value} (T : Top K mg) : Addr := T.d_found.f
abbrev Top.fd_found {K : PySem.W.Frag} {mg : Str → Option Value} (T : Top K mg) : FuncData := T.d_found.fd
theorem Top.F_found {K : PySem.W.Frag} {mg : Str → Option Value} (T : Top K mg) : Fun K "found" "found" s_found T.f_found T.fd_found := T.d_found.F
theorem Top.b_found {K : PySem.W.Frag} {mg : Str → Option Value} (T : Top K mg) : Binds K T.fd_found ["books", "circle", "stake", "bidding", "seats"] [] := T.d_found.b
abbrev Top.f_pay {K : PySem.W.Frag} {mg : Str → Option Value} (T : Top K mg) : Addr := T.d_pay.f
abbrev Top.fd_pay {K : PySem.W.Frag} {mg : Str → Option Value} (T : Top K mg) : FuncData := T.d_pay.fd
theorem Top.F_pay {K : PySem.W.Frag} {mg : Str → Option Value} (T : Top K mg) : Fun K "pay" "pay" s_pay T.f_pay T.fd_pay := T.d_pay.F
theorem Top.b_pay {K : PySem.W.Frag} {mg : Str → Option Value} (T : Top K mg) : Binds K T.fd_pay ["books", "circle", "name"] [] := T.d_pay.b
abbrev Top.f_bid {K : PySem.W.Frag} {mg : Str → Option Value} (T : Top K mg) : Addr := T.d_bid.f
abbrev Top.fd_bid {K : PySem.W.Frag} {mg : Str → Option Value} (T : Top K mg) : FuncData := T.d_bid.fd
theorem Top.F_bid {K : PySem.W.Frag} {mg : Str → Option Value} (T : Top K mg) : Fun K "bid" "bid" s_bid T.f_bid T.fd_bid := T.d_bid.F
theorem Top.b_bid {K : PySem.W.Frag} {mg : Str → Option Value} (T : Top K mg) : Binds K T.fd_bid ["books", "circle", "name", "coins"] [] := T.d_bid.b
abbrev Top.f_lay {K : PySem.W.Frag} {mg : Str → Option Value} (T : Top K mg) : Addr := T.d_lay.f
abbrev Top.fd_lay {K : PySem.W.Frag} {mg : Str → Option Value} (T : Top K mg) : FuncData := T.d_lay.fd
theorem Top.F_lay {K : PySem.W.Frag} {mg : Str → Option Value} (T : Top K mg) : Fun K "lay" "lay" s_lay T.f_lay T.fd_lay := T.d_lay.F
theorem Top.b_lay {K : PySem.W.Frag} {mg : Str → Option Value} (T : Top K mg) : Binds K T.fd_lay ["books", "circle", "name", "coins"] [] := T.d_lay.b
abbrev Top.f_swap {K : PySem.W.Frag} {mg : Str → Option Value} (T : Top K mg) : Addr := T.d_swap.f
abbrev Top.fd_swap {K : PySem.W.Frag} {mg : Str → Option Value} (T : Top K mg) : FuncData := T.d_swap.fd
theorem Top.F_swap {K : PySem.W.Frag} {mg : Str → Option Value} (T : Top K mg) : Fun K "swap" "swap" s_swap T.f_swap T.fd_swap := T.d_swap.F
theorem Top.b_swap {K : PySem.W.Frag} {mg : Str → Option Value} (T : Top K mg) : Binds K T.fd_swap ["books", "circle", "name", "other"] [] := T.d_swap.b
abbrev Top.f_close {K : PySem.W.Frag} {mg : Str → Option Value} (T : Top K mg) : Addr := T.d_close.f
abbrev Top.fd_close {K : PySem.W.Frag} {mg : Str → Option Value} (T : Top K mg) : FuncData := T.d_close.fd
theorem Top.F_close {K : PySem.W.Frag} {mg : Str → Option Value} (T : Top K mg) : Fun K "close" "close" s_close T.f_close T.fd_close := T.d_close.F
theorem Top.b_close {K : PySem.W.Frag} {mg : Str → Option Value} (T : Top K mg) : Binds K T.fd_close ["books", "circle"] [] := T.d_close.b
abbrev Top.f_refuse_ended {K : PySem.W.Frag} {mg : Str → Option Value} (T : Top K mg) : Addr := T.d_refuse_ended.f
abbrev Top.fd_refuse_ended {K : PySem.W.Frag} {mg : Str → Option Value} (T : Top K mg) : FuncData := T.d_refuse_ended.fd
theorem Top.F_refuse_ended {K : PySem.W.Frag} {mg : Str → Option Value} (T : Top K mg) : Fun K "refuse_ended" "refuse_ended" s_refuse_ended T.f_refuse_ended T.fd_refuse_ended := T.d_refuse_ended.F
theorem Top.b_refuse_ended {K : PySem.W.Frag} {mg : Str → Option Value} (T : Top K mg) : Binds K T.fd_refuse_ended ["table"] [] := T.d_refuse_ended.b
abbrev Top.f_refuse_beyond {K : PySem.W.Frag} {mg : Str → Option Value} (T : Top K mg) : Addr := T.d_refuse_beyond.f
abbrev Top.fd_refuse_beyond {K : PySem.W.Frag} {mg : Str → Option Value} (T : Top K mg) : FuncData := T.d_refuse_beyond.fd
theorem Top.F_refuse_beyond {K : PySem.W.Frag} {mg : Str → Option Value} (T : Top K mg) : Fun K "refuse_beyond" "refuse_beyond" s_refuse_beyond T.f_refuse_beyond T.fd_refuse_beyond := T.d_refuse_beyond.F
theorem Top.b_refuse_beyond {K : PySem.W.Frag} {mg : Str → Option Value} (T : Top K mg) : Binds K T.fd_refuse_beyond ["coins", "least", "most"] [] := T.d_refuse_beyond.b
abbrev Top.f_done {K : PySem.W.Frag} {mg : Str → Option Value} (T : Top K mg) : Addr := T.d_done.f
abbrev Top.fd_done {K : PySem.W.Frag} {mg : Str → Option Value} (T : Top K mg) : FuncData := T.d_done.fd
theorem Top.F_done {K : PySem.W.Frag} {mg : Str → Option Value} (T : Top K mg) : Fun K "done" "done" s_done T.f_done T.fd_done := T.d_done.F
theorem Top.b_done {K : PySem.W.Frag} {mg : Str → Option Value} (T : Top K mg) : Binds K T.fd_done ["books", "row"] [] := T.d_done.b
abbrev Top.f_House___init__ {K : PySem.W.Frag} {mg : Str → Option Value} (T : Top K mg) : Addr := T.d_House___init__.f
abbrev Top.fd_House___init__ {K : PySem.W.Frag} {mg : Str → Option Value} (T : Top K mg) : FuncData := T.d_House___init__.fd
theorem Top.F_House___init__ {K : PySem.W.Frag} {mg : Str → Option Value} (T : Top K mg) : Fun K "__init__" "House.__init__" s_House___init__ T.f_House___init__ T.fd_House___init__ := T.d_House___init__.F
theorem Top.b_House___init__ {K : PySem.W.Frag} {mg : Str → Option Value} (T : Top K mg) : Binds K T.fd_House___init__ ["self"] [] := T.d_House___init__.b
abbrev Top.f_House_enter {K : PySem.W.Frag} {mg : Str → Option Value} (T : Top K mg) : Addr := T.d_House_enter.f
abbrev Top.fd_House_enter {K : PySem.W.Frag} {mg : Str → Option Value} (T : Top K mg) : FuncData := T.d_House_enter.fd
theorem Top.F_House_enter {K : PySem.W.Frag} {mg : Str → Option Value} (T : Top K mg) : Fun K "enter" "House.enter" s_House_enter T.f_House_enter T.fd_House_enter := T.d_House_enter.F
theorem Top.b_House_enter {K : PySem.W.Frag} {mg : Str → Option Value} (T : Top K mg) : Binds K T.fd_House_enter ["self", "name"] [] := T.d_House_enter.b
theorem Top.mt_House_enter {K : PySem.W.Frag} {mg : Str → Option Value} (T : Top K mg) : Meth K T.f_House "enter" T.f_House_enter := T.d_House_enter.mt
abbrev Top.f_House_part {K : PySem.W.Frag} {mg : Str → Option Value} (T : Top K mg) : Addr := T.d_House_part.f
abbrev Top.fd_House_part {K : PySem.W.Frag} {mg : Str → Option Value} (T : Top K mg) : FuncData := T.d_House_part.fd
theorem Top.F_House_part {K : PySem.W.Frag} {mg : Str → Option Value} (T : Top K mg) : Fun K "part" "House.part" s_House_part T.f_House_part T.fd_House_part := T.d_House_part.F
theorem Top.b_House_part {K : PySem.W.Frag} {mg : Str → Option Value} (T : Top K mg) : Binds K T.fd_House_part ["self", "name"] [] := T.d_House_part.b
theorem Top.mt_House_part {K : PySem.W.Frag} {mg : Str → Option Value} (T : Top K mg) : Meth K T.f_House "part" T.f_House_part := T.d_House_part.mt
abbrev Top.f_House_bring {K : PySem.W.Frag} {mg : Str → Option Value} (T : Top K mg) : Addr := T.d_House_bring.f
abbrev Top.fd_House_bring {K : PySem.W.Frag} {mg : Str → Option Value} (T : Top K mg) : FuncData := T.d_House_bring.fd
theorem Top.F_House_bring {K : PySem.W.Frag} {mg : Str → Option Value} (T : Top K mg) : Fun K "bring" "House.bring" s_House_bring T.f_House_bring T.fd_House_bring := T.d_House_bring.F
theorem Top.b_House_bring {K : PySem.W.Frag} {mg : Str → Option Value} (T : Top K mg) : Binds K T.fd_House_bring ["self", "name", "coins"] [] := T.d_House_bring.b
theorem Top.mt_House_bring {K : PySem.W.Frag} {mg : Str → Option Value} (T : Top K mg) : Meth K T.f_House "bring" T.f_House_bring := T.d_House_bring.mt
abbrev Top.f_House_take {K : PySem.W.Frag} {mg : Str → Option Value} (T : Top K mg) : Addr := T.d_House_take.f
abbrev Top.fd_House_take {K : PySem.W.Frag} {mg : Str → Option Value} (T : Top K mg) : FuncData := T.d_House_take.fd
theorem Top.F_House_take {K : PySem.W.Frag} {mg : Str → Option Value} (T : Top K mg) : Fun K "take" "House.take" s_House_take T.f_House_take T.fd_House_take := T.d_House_take.F
theorem Top.b_House_take {K : PySem.W.Frag} {mg : Str → Option Value} (T : Top K mg) : Binds K T.fd_House_take ["self", "name", "coins"] [] := T.d_House_take.b
theorem Top.mt_House_take {K : PySem.W.Frag} {mg : Str → Option Value} (T : Top K mg) : Meth K T.f_House "take" T.f_House_take := T.d_House_take.mt
abbrev Top.f_House_found {K : PySem.W.Frag} {mg : Str → Option Value} (T : Top K mg) : Addr := T.d_House_found.f
abbrev Top.fd_House_found {K : PySem.W.Frag} {mg : Str → Option Value} (T : Top K mg) : FuncData := T.d_House_found.fd
theorem Top.F_House_found {K : PySem.W.Frag} {mg : Str → Option Value} (T : Top K mg) : Fun K "found" "House.found" s_House_found T.f_House_found T.fd_House_found := T.d_House_found.F
theorem Top.b_House_found {K : PySem.W.Frag} {mg : Str → Option Value} (T : Top K mg) : Binds K T.fd_House_found ["self", "circle", "stake", "bidding", "seats"] [] := T.d_House_found.b
theorem Top.mt_House_found {K : PySem.W.Frag} {mg : Str → Option Value} (T : Top K mg) : Meth K T.f_House "found" T.f_House_found := T.d_House_found.mt
abbrev Top.f_House_pay {K : PySem.W.Frag} {mg : Str → Option Value} (T : Top K mg) : Addr := T.d_House_pay.f
abbrev Top.fd_House_pay {K : PySem.W.Frag} {mg : Str → Option Value} (T : Top K mg) : FuncData := T.d_House_pay.fd
theorem Top.F_House_pay {K : PySem.W.Frag} {mg : Str → Option Value} (T : Top K mg) : Fun K "pay" "House.pay" s_House_pay T.f_House_pay T.fd_House_pay := T.d_House_pay.F
theorem Top.b_House_pay {K : PySem.W.Frag} {mg : Str → Option Value} (T : Top K mg) : Binds K T.fd_House_pay ["self", "circle", "name"] [] := T.d_House_pay.b
theorem Top.mt_House_pay {K : PySem.W.Frag} {mg : Str → Option Value} (T : Top K mg) : Meth K T.f_House "pay" T.f_House_pay := T.d_House_pay.mt
abbrev Top.f_House_bid {K : PySem.W.Frag} {mg : Str → Option Value} (T : Top K mg) : Addr := T.d_House_bid.f
abbrev Top.fd_House_bid {K : PySem.W.Frag} {mg : Str → Option Value} (T : Top K mg) : FuncData := T.d_House_bid.fd
theorem Top.F_House_bid {K : PySem.W.Frag} {mg : Str → Option Value} (T : Top K mg) : Fun K "bid" "House.bid" s_House_bid T.f_House_bid T.fd_House_bid := T.d_House_bid.F
theorem Top.b_House_bid {K : PySem.W.Frag} {mg : Str → Option Value} (T : Top K mg) : Binds K T.fd_House_bid ["self", "circle", "name", "coins"] [] := T.d_House_bid.b
theorem Top.mt_House_bid {K : PySem.W.Frag} {mg : Str → Option Value} (T : Top K mg) : Meth K T.f_House "bid" T.f_House_bid := T.d_House_bid.mt
abbrev Top.f_House_lay {K : PySem.W.Frag} {mg : Str → Option Value} (T : Top K mg) : Addr := T.d_House_lay.f
abbrev Top.fd_House_lay {K : PySem.W.Frag} {mg : Str → Option Value} (T : Top K mg) : FuncData := T.d_House_lay.fd
theorem Top.F_House_lay {K : PySem.W.Frag} {mg : Str → Option Value} (T : Top K mg) : Fun K "lay" "House.lay" s_House_lay T.f_House_lay T.fd_House_lay := T.d_House_lay.F
theorem Top.b_House_lay {K : PySem.W.Frag} {mg : Str → Option Value} (T : Top K mg) : Binds K T.fd_House_lay ["self", "circle", "name", "coins"] [] := T.d_House_lay.b
theorem Top.mt_House_lay {K : PySem.W.Frag} {mg : Str → Option Value} (T : Top K mg) : Meth K T.f_House "lay" T.f_House_lay := T.d_House_lay.mt
abbrev Top.f_House_swap {K : PySem.W.Frag} {mg : Str → Option Value} (T : Top K mg) : Addr := T.d_House_swap.f
abbrev Top.fd_House_swap {K : PySem.W.Frag} {mg : Str → Option Value} (T : Top K mg) : FuncData := T.d_House_swap.fd
theorem Top.F_House_swap {K : PySem.W.Frag} {mg : Str → Option Value} (T : Top K mg) : Fun K "swap" "House.swap" s_House_swap T.f_House_swap T.fd_House_swap := T.d_House_swap.F
theorem Top.b_House_swap {K : PySem.W.Frag} {mg : Str → Option Value} (T : Top K mg) : Binds K T.fd_House_swap ["self", "circle", "name", "other"] [] := T.d_House_swap.b
theorem Top.mt_House_swap {K : PySem.W.Frag} {mg : Str → Option Value} (T : Top K mg) : Meth K T.f_House "swap" T.f_House_swap := T.d_House_swap.mt
abbrev Top.f_House_close {K : PySem.W.Frag} {mg : Str → Option Value} (T : Top K mg) : Addr := T.d_House_close.f
abbrev Top.fd_House_close {K : PySem.W.Frag} {mg : Str → Option Value} (T : Top K mg) : FuncData := T.d_House_close.fd
theorem Top.F_House_close {K : PySem.W.Frag} {mg : Str → Option Value} (T : Top K mg) : Fun K "close" "House.close" s_House_close T.f_House_close T.fd_House_close := T.d_House_close.F
theorem Top.b_House_close {K : PySem.W.Frag} {mg : Str → Option Value} (T : Top K mg) : Binds K T.fd_House_close ["self", "circle"] [] := T.d_House_close.b
theorem Top.mt_House_close {K : PySem.W.Frag} {mg : Str → Option Value} (T : Top K mg) : Meth K T.f_House "close" T.f_House_close := T.d_House_close.mt
abbrev Top.f_House_deed {K : PySem.W.Frag} {mg : Str → Option Value} (T : Top K mg) : Addr := T.d_House_deed.f
abbrev Top.fd_House_deed {K : PySem.W.Frag} {mg : Str → Option Value} (T : Top K mg) : FuncData := T.d_House_deed.fd
theorem Top.F_House_deed {K : PySem.W.Frag} {mg : Str → Option Value} (T : Top K mg) : Fun K "deed" "House.deed" s_House_deed T.f_House_deed T.fd_House_deed := T.d_House_deed.F
theorem Top.b_House_deed {K : PySem.W.Frag} {mg : Str → Option Value} (T : Top K mg) : Binds K T.fd_House_deed ["self", "row"] [] := T.d_House_deed.b
theorem Top.mt_House_deed {K : PySem.W.Frag} {mg : Str → Option Value} (T : Top K mg) : Meth K T.f_House "deed" T.f_House_deed := T.d_House_deed.mt
abbrev Top.f_House_back {K : PySem.W.Frag} {mg : Str → Option Value} (T : Top K mg) : Addr := T.d_House_back.f
abbrev Top.fd_House_back {K : PySem.W.Frag} {mg : Str → Option Value} (T : Top K mg) : FuncData := T.d_House_back.fd
theorem Top.F_House_back {K : PySem.W.Frag} {mg : Str → Option Value} (T : Top K mg) : Fun K "back" "House.back" s_House_back T.f_House_back T.fd_House_back := T.d_House_back.F
theorem Top.b_House_back {K : PySem.W.Frag} {mg : Str → Option Value} (T : Top K mg) : Binds K T.fd_House_back ["self"] [] := T.d_House_back.b
theorem Top.mt_House_back {K : PySem.W.Frag} {mg : Str → Option Value} (T : Top K mg) : Meth K T.f_House "back" T.f_House_back := T.d_House_back.mt
abbrev Top.f_House_again {K : PySem.W.Frag} {mg : Str → Option Value} (T : Top K mg) : Addr := T.d_House_again.f
abbrev Top.fd_House_again {K : PySem.W.Frag} {mg : Str → Option Value} (T : Top K mg) : FuncData := T.d_House_again.fd
theorem Top.F_House_again {K : PySem.W.Frag} {mg : Str → Option Value} (T : Top K mg) : Fun K "again" "House.again" s_House_again T.f_House_again T.fd_House_again := T.d_House_again.F
theorem Top.b_House_again {K : PySem.W.Frag} {mg : Str → Option Value} (T : Top K mg) : Binds K T.fd_House_again ["self"] [] := T.d_House_again.b
theorem Top.mt_House_again {K : PySem.W.Frag} {mg : Str → Option Value} (T : Top K mg) : Meth K T.f_House "again" T.f_House_again := T.d_House_again.mt
abbrev Top.f_House_members {K : PySem.W.Frag} {mg : Str → Option Value} (T : Top K mg) : Addr := T.d_House_members.f
abbrev Top.fd_House_members {K : PySem.W.Frag} {mg : Str → Option Value} (T : Top K mg) : FuncData := T.d_House_members.fd
theorem Top.F_House_members {K : PySem.W.Frag} {mg : Str → Option Value} (T : Top K mg) : Fun K "members" "House.members" s_House_members T.f_House_members T.fd_House_members := T.d_House_members.F
theorem Top.b_House_members {K : PySem.W.Frag} {mg : Str → Option Value} (T : Top K mg) : Binds K T.fd_House_members ["self"] [] := T.d_House_members.b
theorem Top.mt_House_members {K : PySem.W.Frag} {mg : Str → Option Value} (T : Top K mg) : Meth K T.f_House "members" T.f_House_members := T.d_House_members.mt
abbrev Top.f_House_purse {K : PySem.W.Frag} {mg : Str → Option Value} (T : Top K mg) : Addr := T.d_House_purse.f
abbrev Top.fd_House_purse {K : PySem.W.Frag} {mg : Str → Option Value} (T : Top K mg) : FuncData := T.d_House_purse.fd
theorem Top.F_House_purse {K : PySem.W.Frag} {mg : Str → Option Value} (T : Top K mg) : Fun K "purse" "House.purse" s_House_purse T.f_House_purse T.fd_House_purse := T.d_House_purse.F
theorem Top.b_House_purse {K : PySem.W.Frag} {mg : Str → Option Value} (T : Top K mg) : Binds K T.fd_House_purse ["self", "name"] [] := T.d_House_purse.b
theorem Top.mt_House_purse {K : PySem.W.Frag} {mg : Str → Option Value} (T : Top K mg) : Meth K T.f_House "purse" T.f_House_purse := T.d_House_purse.mt
abbrev Top.f_House_circles {K : PySem.W.Frag} {mg : Str → Option Value} (T : Top K mg) : Addr := T.d_House_circles.f
abbrev Top.fd_House_circles {K : PySem.W.Frag} {mg : Str → Option Value} (T : Top K mg) : FuncData := T.d_House_circles.fd
theorem Top.F_House_circles {K : PySem.W.Frag} {mg : Str → Option Value} (T : Top K mg) : Fun K "circles" "House.circles" s_House_circles T.f_House_circles T.fd_House_circles := T.d_House_circles.F
theorem Top.b_House_circles {K : PySem.W.Frag} {mg : Str → Option Value} (T : Top K mg) : Binds K T.fd_House_circles ["self"] [] := T.d_House_circles.b
theorem Top.mt_House_circles {K : PySem.W.Frag} {mg : Str → Option Value} (T : Top K mg) : Meth K T.f_House "circles" T.f_House_circles := T.d_House_circles.mt
abbrev Top.f_House_names {K : PySem.W.Frag} {mg : Str → Option Value} (T : Top K mg) : Addr := T.d_House_names.f
abbrev Top.fd_House_names {K : PySem.W.Frag} {mg : Str → Option Value} (T : Top K mg) : FuncData := T.d_House_names.fd
theorem Top.F_House_names {K : PySem.W.Frag} {mg : Str → Option Value} (T : Top K mg) : Fun K "names" "House.names" s_House_names T.f_House_names T.fd_House_names := T.d_House_names.F
theorem Top.b_House_names {K : PySem.W.Frag} {mg : Str → Option Value} (T : Top K mg) : Binds K T.fd_House_names ["self", "circle"] [] := T.d_House_names.b
theorem Top.mt_House_names {K : PySem.W.Frag} {mg : Str → Option Value} (T : Top K mg) : Meth K T.f_House "names" T.f_House_names := T.d_House_names.mt
abbrev Top.f_House_turn {K : PySem.W.Frag} {mg : Str → Option Value} (T : Top K mg) : Addr := T.d_House_turn.f
abbrev Top.fd_House_turn {K : PySem.W.Frag} {mg : Str → Option Value} (T : Top K mg) : FuncData := T.d_House_turn.fd
theorem Top.F_House_turn {K : PySem.W.Frag} {mg : Str → Option Value} (T : Top K mg) : Fun K "turn" "House.turn" s_House_turn T.f_House_turn T.fd_House_turn := T.d_House_turn.F
theorem Top.b_House_turn {K : PySem.W.Frag} {mg : Str → Option Value} (T : Top K mg) : Binds K T.fd_House_turn ["self", "circle"] [] := T.d_House_turn.b
theorem Top.mt_House_turn {K : PySem.W.Frag} {mg : Str → Option Value} (T : Top K mg) : Meth K T.f_House "turn" T.f_House_turn := T.d_House_turn.mt
abbrev Top.f_House_rests {K : PySem.W.Frag} {mg : Str → Option Value} (T : Top K mg) : Addr := T.d_House_rests.f
abbrev Top.fd_House_rests {K : PySem.W.Frag} {mg : Str → Option Value} (T : Top K mg) : FuncData := T.d_House_rests.fd
theorem Top.F_House_rests {K : PySem.W.Frag} {mg : Str → Option Value} (T : Top K mg) : Fun K "rests" "House.rests" s_House_rests T.f_House_rests T.fd_House_rests := T.d_House_rests.F
theorem Top.b_House_rests {K : PySem.W.Frag} {mg : Str → Option Value} (T : Top K mg) : Binds K T.fd_House_rests ["self", "circle"] [] := T.d_House_rests.b
theorem Top.mt_House_rests {K : PySem.W.Frag} {mg : Str → Option Value} (T : Top K mg) : Meth K T.f_House "rests" T.f_House_rests := T.d_House_rests.mt
abbrev Top.f_House_queue {K : PySem.W.Frag} {mg : Str → Option Value} (T : Top K mg) : Addr := T.d_House_queue.f
abbrev Top.fd_House_queue {K : PySem.W.Frag} {mg : Str → Option Value} (T : Top K mg) : FuncData := T.d_House_queue.fd
theorem Top.F_House_queue {K : PySem.W.Frag} {mg : Str → Option Value} (T : Top K mg) : Fun K "queue" "House.queue" s_House_queue T.f_House_queue T.fd_House_queue := T.d_House_queue.F
theorem Top.b_House_queue {K : PySem.W.Frag} {mg : Str → Option Value} (T : Top K mg) : Binds K T.fd_House_queue ["self", "circle"] [] := T.d_House_queue.b
theorem Top.mt_House_queue {K : PySem.W.Frag} {mg : Str → Option Value} (T : Top K mg) : Meth K T.f_House "queue" T.f_House_queue := T.d_House_queue.mt
abbrev Top.f_House_paid {K : PySem.W.Frag} {mg : Str → Option Value} (T : Top K mg) : Addr := T.d_House_paid.f
abbrev Top.fd_House_paid {K : PySem.W.Frag} {mg : Str → Option Value} (T : Top K mg) : FuncData := T.d_House_paid.fd
theorem Top.F_House_paid {K : PySem.W.Frag} {mg : Str → Option Value} (T : Top K mg) : Fun K "paid" "House.paid" s_House_paid T.f_House_paid T.fd_House_paid := T.d_House_paid.F
theorem Top.b_House_paid {K : PySem.W.Frag} {mg : Str → Option Value} (T : Top K mg) : Binds K T.fd_House_paid ["self", "circle"] [] := T.d_House_paid.b
theorem Top.mt_House_paid {K : PySem.W.Frag} {mg : Str → Option Value} (T : Top K mg) : Meth K T.f_House "paid" T.f_House_paid := T.d_House_paid.mt
abbrev Top.f_House_bids {K : PySem.W.Frag} {mg : Str → Option Value} (T : Top K mg) : Addr := T.d_House_bids.f
abbrev Top.fd_House_bids {K : PySem.W.Frag} {mg : Str → Option Value} (T : Top K mg) : FuncData := T.d_House_bids.fd
theorem Top.F_House_bids {K : PySem.W.Frag} {mg : Str → Option Value} (T : Top K mg) : Fun K "bids" "House.bids" s_House_bids T.f_House_bids T.fd_House_bids := T.d_House_bids.F
theorem Top.b_House_bids {K : PySem.W.Frag} {mg : Str → Option Value} (T : Top K mg) : Binds K T.fd_House_bids ["self", "circle"] [] := T.d_House_bids.b
theorem Top.mt_House_bids {K : PySem.W.Frag} {mg : Str → Option Value} (T : Top K mg) : Meth K T.f_House "bids" T.f_House_bids := T.d_House_bids.mt
abbrev Top.f_House_reports {K : PySem.W.Frag} {mg : Str → Option Value} (T : Top K mg) : Addr := T.d_House_reports.f
abbrev Top.fd_House_reports {K : PySem.W.Frag} {mg : Str → Option Value} (T : Top K mg) : FuncData := T.d_House_reports.fd
theorem Top.F_House_reports {K : PySem.W.Frag} {mg : Str → Option Value} (T : Top K mg) : Fun K "reports" "House.reports" s_House_reports T.f_House_reports T.fd_House_reports := T.d_House_reports.F
theorem Top.b_House_reports {K : PySem.W.Frag} {mg : Str → Option Value} (T : Top K mg) : Binds K T.fd_House_reports ["self", "circle"] [] := T.d_House_reports.b
theorem Top.mt_House_reports {K : PySem.W.Frag} {mg : Str → Option Value} (T : Top K mg) : Meth K T.f_House "reports" T.f_House_reports := T.d_House_reports.mt
abbrev Top.f_House_held {K : PySem.W.Frag} {mg : Str → Option Value} (T : Top K mg) : Addr := T.d_House_held.f
abbrev Top.fd_House_held {K : PySem.W.Frag} {mg : Str → Option Value} (T : Top K mg) : FuncData := T.d_House_held.fd
theorem Top.F_House_held {K : PySem.W.Frag} {mg : Str → Option Value} (T : Top K mg) : Fun K "held" "House.held" s_House_held T.f_House_held T.fd_House_held := T.d_House_held.F
theorem Top.b_House_held {K : PySem.W.Frag} {mg : Str → Option Value} (T : Top K mg) : Binds K T.fd_House_held ["self", "circle"] [] := T.d_House_held.b
theorem Top.mt_House_held {K : PySem.W.Frag} {mg : Str → Option Value} (T : Top K mg) : Meth K T.f_House "held" T.f_House_held := T.d_House_held.mt
abbrev Top.f_House_seat {K : PySem.W.Frag} {mg : Str → Option Value} (T : Top K mg) : Addr := T.d_House_seat.f
abbrev Top.fd_House_seat {K : PySem.W.Frag} {mg : Str → Option Value} (T : Top K mg) : FuncData := T.d_House_seat.fd
theorem Top.F_House_seat {K : PySem.W.Frag} {mg : Str → Option Value} (T : Top K mg) : Fun K "seat" "House.seat" s_House_seat T.f_House_seat T.fd_House_seat := T.d_House_seat.F
theorem Top.b_House_seat {K : PySem.W.Frag} {mg : Str → Option Value} (T : Top K mg) : Binds K T.fd_House_seat ["self", "circle", "name"] [] := T.d_House_seat.b
theorem Top.mt_House_seat {K : PySem.W.Frag} {mg : Str → Option Value} (T : Top K mg) : Meth K T.f_House "seat" T.f_House_seat := T.d_House_seat.mt
abbrev Top.f_House_coins {K : PySem.W.Frag} {mg : Str → Option Value} (T : Top K mg) : Addr := T.d_House_coins.f
abbrev Top.fd_House_coins {K : PySem.W.Frag} {mg : Str → Option Value} (T : Top K mg) : FuncData := T.d_House_coins.fd
theorem Top.F_House_coins {K : PySem.W.Frag} {mg : Str → Option Value} (T : Top K mg) : Fun K "coins" "House.coins" s_House_coins T.f_House_coins T.fd_House_coins := T.d_House_coins.F
theorem Top.b_House_coins {K : PySem.W.Frag} {mg : Str → Option Value} (T : Top K mg) : Binds K T.fd_House_coins ["self"] [] := T.d_House_coins.b
theorem Top.mt_House_coins {K : PySem.W.Frag} {mg : Str → Option Value} (T : Top K mg) : Meth K T.f_House "coins" T.f_House_coins := T.d_House_coins.mt
abbrev Top.f_House_twin {K : PySem.W.Frag} {mg : Str → Option Value} (T : Top K mg) : Addr := T.d_House_twin.f
abbrev Top.fd_House_twin {K : PySem.W.Frag} {mg : Str → Option Value} (T : Top K mg) : FuncData := T.d_House_twin.fd
theorem Top.F_House_twin {K : PySem.W.Frag} {mg : Str → Option Value} (T : Top K mg) : Fun K "twin" "House.twin" s_House_twin T.f_House_twin T.fd_House_twin := T.d_House_twin.F
theorem Top.b_House_twin {K : PySem.W.Frag} {mg : Str → Option Value} (T : Top K mg) : Binds K T.fd_House_twin ["self"] [] := T.d_House_twin.b
theorem Top.mt_House_twin {K : PySem.W.Frag} {mg : Str → Option Value} (T : Top K mg) : Meth K T.f_House "twin" T.f_House_twin := T.d_House_twin.mt
abbrev Top.f_House_keep_done {K : PySem.W.Frag} {mg : Str → Option Value} (T : Top K mg) : Addr := T.d_House_keep_done.f
abbrev Top.fd_House_keep_done {K : PySem.W.Frag} {mg : Str → Option Value} (T : Top K mg) : FuncData := T.d_House_keep_done.fd
theorem Top.F_House_keep_done {K : PySem.W.Frag} {mg : Str → Option Value} (T : Top K mg) : Fun K "keep_done" "House.keep_done" s_House_keep_done T.f_House_keep_done T.fd_House_keep_done := T.d_House_keep_done.F
theorem Top.b_House_keep_done {K : PySem.W.Frag} {mg : Str → Option Value} (T : Top K mg) : Binds K T.fd_House_keep_done ["self", "row"] [] := T.d_House_keep_done.b
theorem Top.mt_House_keep_done {K : PySem.W.Frag} {mg : Str → Option Value} (T : Top K mg) : Meth K T.f_House "keep_done" T.f_House_keep_done := T.d_House_keep_done.mt
abbrev Top.f__law_draws {K : PySem.W.Frag} {mg : Str → Option Value} (T : Top K mg) : Addr := T.d__law_draws.f
abbrev Top.fd__law_draws {K : PySem.W.Frag} {mg : Str → Option Value} (T : Top K mg) : FuncData := T.d__law_draws.fd
theorem Top.F__law_draws {K : PySem.W.Frag} {mg : Str → Option Value} (T : Top K mg) : Fun K "_law_draws" "_law_draws" s__law_draws T.f__law_draws T.fd__law_draws := T.d__law_draws.F
theorem Top.b__law_draws {K : PySem.W.Frag} {mg : Str → Option Value} (T : Top K mg) : Binds K T.fd__law_draws ["_law_script", "_law_many"] [] := T.d__law_draws.b
abbrev Top.f__law_same {K : PySem.W.Frag} {mg : Str → Option Value} (T : Top K mg) : Addr := T.d__law_same.f
abbrev Top.fd__law_same {K : PySem.W.Frag} {mg : Str → Option Value} (T : Top K mg) : FuncData := T.d__law_same.fd
theorem Top.F__law_same {K : PySem.W.Frag} {mg : Str → Option Value} (T : Top K mg) : Fun K "_law_same" "_law_same" s__law_same T.f__law_same T.fd__law_same := T.d__law_same.F
theorem Top.b__law_same {K : PySem.W.Frag} {mg : Str → Option Value} (T : Top K mg) : Binds K T.fd__law_same ["_law_told", "_law_due_here"] [] := T.d__law_same.b
abbrev Top.f__law_names {K : PySem.W.Frag} {mg : Str → Option Value} (T : Top K mg) : Addr := T.d__law_names.f
abbrev Top.fd__law_names {K : PySem.W.Frag} {mg : Str → Option Value} (T : Top K mg) : FuncData := T.d__law_names.fd
theorem Top.F__law_names {K : PySem.W.Frag} {mg : Str → Option Value} (T : Top K mg) : Fun K "_law_names" "_law_names" s__law_names T.f__law_names T.fd__law_names := T.d__law_names.F
theorem Top.b__law_names {K : PySem.W.Frag} {mg : Str → Option Value} (T : Top K mg) : Binds K T.fd__law_names ["_law_some", "_law_many"] [] := T.d__law_names.b
abbrev Top.f__law_is_name {K : PySem.W.Frag} {mg : Str → Option Value} (T : Top K mg) : Addr := T.d__law_is_name.f
abbrev Top.fd__law_is_name {K : PySem.W.Frag} {mg : Str → Option Value} (T : Top K mg) : FuncData := T.d__law_is_name.fd
theorem Top.F__law_is_name {K : PySem.W.Frag} {mg : Str → Option Value} (T : Top K mg) : Fun K "_law_is_name" "_law_is_name" s__law_is_name T.f__law_is_name T.fd__law_is_name := T.d__law_is_name.F
theorem Top.b__law_is_name {K : PySem.W.Frag} {mg : Str → Option Value} (T : Top K mg) : Binds K T.fd__law_is_name ["_law_word"] [] := T.d__law_is_name.b
abbrev Top.f__law_member_deed {K : PySem.W.Frag} {mg : Str → Option Value} (T : Top K mg) : Addr := T.d__law_member_deed.f
abbrev Top.fd__law_member_deed {K : PySem.W.Frag} {mg : Str → Option Value} (T : Top K mg) : FuncData := T.d__law_member_deed.fd
theorem Top.F__law_member_deed {K : PySem.W.Frag} {mg : Str → Option Value} (T : Top K mg) : Fun K "_law_member_deed" "_law_member_deed" s__law_member_deed T.f__law_member_deed T.fd__law_member_deed := T.d__law_member_deed.F
theorem Top.b__law_member_deed {K : PySem.W.Frag} {mg : Str → Option Value} (T : Top K mg) : Binds K T.fd__law_member_deed ["_law_book", "_law_row"] [] := T.d__law_member_deed.b
abbrev Top.f__law_table_due {K : PySem.W.Frag} {mg : Str → Option Value} (T : Top K mg) : Addr := T.d__law_table_due.f
abbrev Top.fd__law_table_due {K : PySem.W.Frag} {mg : Str → Option Value} (T : Top K mg) : FuncData := T.d__law_table_due.fd
theorem Top.F__law_table_due {K : PySem.W.Frag} {mg : Str → Option Value} (T : Top K mg) : Fun K "_law_table_due" "_law_table_due" s__law_table_due T.f__law_table_due T.fd__law_table_due := T.d__law_table_due.F
theorem Top.b__law_table_due {K : PySem.W.Frag} {mg : Str → Option Value} (T : Top K mg) : Binds K T.fd__law_table_due ["_law_table"] [] := T.d__law_table_due.b
abbrev Top.f__law_due {K : PySem.W.Frag} {mg : Str → Option Value} (T : Top K mg) : Addr := T.d__law_due.f
abbrev Top.fd__law_due {K : PySem.W.Frag} {mg : Str → Option Value} (T : Top K mg) : FuncData := T.d__law_due.fd
theorem Top.F__law_due {K : PySem.W.Frag} {mg : Str → Option Value} (T : Top K mg) : Fun K "_law_due" "_law_due" s__law_due T.f__law_due T.fd__law_due := T.d__law_due.F
theorem Top.b__law_due {K : PySem.W.Frag} {mg : Str → Option Value} (T : Top K mg) : Binds K T.fd__law_due ["_law_book"] [] := T.d__law_due.b
abbrev Top.f__law_named {K : PySem.W.Frag} {mg : Str → Option Value} (T : Top K mg) : Addr := T.d__law_named.f
abbrev Top.fd__law_named {K : PySem.W.Frag} {mg : Str → Option Value} (T : Top K mg) : FuncData := T.d__law_named.fd
theorem Top.F__law_named {K : PySem.W.Frag} {mg : Str → Option Value} (T : Top K mg) : Fun K "_law_named" "_law_named" s__law_named T.f__law_named T.fd__law_named := T.d__law_named.F
theorem Top.b__law_named {K : PySem.W.Frag} {mg : Str → Option Value} (T : Top K mg) : Binds K T.fd__law_named ["_law_people", "_law_raw"] [] := T.d__law_named.b
abbrev Top.f__law_done {K : PySem.W.Frag} {mg : Str → Option Value} (T : Top K mg) : Addr := T.d__law_done.f
abbrev Top.fd__law_done {K : PySem.W.Frag} {mg : Str → Option Value} (T : Top K mg) : FuncData := T.d__law_done.fd
theorem Top.F__law_done {K : PySem.W.Frag} {mg : Str → Option Value} (T : Top K mg) : Fun K "_law_done" "_law_done" s__law_done T.f__law_done T.fd__law_done := T.d__law_done.F
theorem Top.b__law_done {K : PySem.W.Frag} {mg : Str → Option Value} (T : Top K mg) : Binds K T.fd__law_done ["_law_house", "_law_row"] [] := T.d__law_done.b
abbrev Top.f__law_marks {K : PySem.W.Frag} {mg : Str → Option Value} (T : Top K mg) : Addr := T.d__law_marks.f
abbrev Top.fd__law_marks {K : PySem.W.Frag} {mg : Str → Option Value} (T : Top K mg) : FuncData := T.d__law_marks.fd
theorem Top.F__law_marks {K : PySem.W.Frag} {mg : Str → Option Value} (T : Top K mg) : Fun K "_law_marks" "_law_marks" s__law_marks T.f__law_marks T.fd__law_marks := T.d__law_marks.F
theorem Top.b__law_marks {K : PySem.W.Frag} {mg : Str → Option Value} (T : Top K mg) : Binds K T.fd__law_marks ["_law_word"] [] := T.d__law_marks.b
abbrev Top.f__law_table_seen {K : PySem.W.Frag} {mg : Str → Option Value} (T : Top K mg) : Addr := T.d__law_table_seen.f
abbrev Top.fd__law_table_seen {K : PySem.W.Frag} {mg : Str → Option Value} (T : Top K mg) : FuncData := T.d__law_table_seen.fd
theorem Top.F__law_table_seen {K : PySem.W.Frag} {mg : Str → Option Value} (T : Top K mg) : Fun K "_law_table_seen" "_law_table_seen" s__law_table_seen T.f__law_table_seen T.fd__law_table_seen := T.d__law_table_seen.F
theorem Top.b__law_table_seen {K : PySem.W.Frag} {mg : Str → Option Value} (T : Top K mg) : Binds K T.fd__law_table_seen ["_law_house", "_law_circle"] [] := T.d__law_table_seen.b
abbrev Top.f__law_seen {K : PySem.W.Frag} {mg : Str → Option Value} (T : Top K mg) : Addr := T.d__law_seen.f
abbrev Top.fd__law_seen {K : PySem.W.Frag} {mg : Str → Option Value} (T : Top K mg) : FuncData := T.d__law_seen.fd
theorem Top.F__law_seen {K : PySem.W.Frag} {mg : Str → Option Value} (T : Top K mg) : Fun K "_law_seen" "_law_seen" s__law_seen T.f__law_seen T.fd__law_seen := T.d__law_seen.F
theorem Top.b__law_seen {K : PySem.W.Frag} {mg : Str → Option Value} (T : Top K mg) : Binds K T.fd__law_seen ["_law_house"] [] := T.d__law_seen.b
abbrev Top.f__law_missing {K : PySem.W.Frag} {mg : Str → Option Value} (T : Top K mg) : Addr := T.d__law_missing.f
abbrev Top.fd__law_missing {K : PySem.W.Frag} {mg : Str → Option Value} (T : Top K mg) : FuncData := T.d__law_missing.fd
theorem Top.F__law_missing {K : PySem.W.Frag} {mg : Str → Option Value} (T : Top K mg) : Fun K "_law_missing" "_law_missing" s__law_missing T.f__law_missing T.fd__law_missing := T.d__law_missing.F
theorem Top.b__law_missing {K : PySem.W.Frag} {mg : Str → Option Value} (T : Top K mg) : Binds K T.fd__law_missing ["_law_house", "_law_name"] [] := T.d__law_missing.b
abbrev Top.f_law {K : PySem.W.Frag} {mg : Str → Option Value} (T : Top K mg) : Addr := T.d_law.f
abbrev Top.fd_law {K : PySem.W.Frag} {mg : Str → Option Value} (T : Top K mg) : FuncData := T.d_law.fd
theorem Top.F_law {K : PySem.W.Frag} {mg : Str → Option Value} (T : Top K mg) : Fun K "law" "law" s_law T.f_law T.fd_law := T.d_law.F
theorem Top.b_law {K : PySem.W.Frag} {mg : Str → Option Value} (T : Top K mg) : Binds K T.fd_law ["_law_script"] [] := T.d_law.b
theorem Top.na_Books_shelves {K : PySem.W.Frag} {mg : Str → Option Value} (T : Top K mg) : NoAttr K T.f_Books "shelves" := T.na_Books _ (List.mem_cons_self)
theorem Top.na_Books_trail {K : PySem.W.Frag} {mg : Str → Option Value} (T : Top K mg) : NoAttr K T.f_Books "trail" := T.na_Books _ (List.mem_cons_of_mem _ (List.mem_cons_self))
theorem Top.na_Seat_state {K : PySem.W.Frag} {mg : Str → Option Value} (T : Top K mg) : NoAttr K T.f_Seat "state" := T.na_Seat _ (List.mem_cons_self)
theorem Top.na_Seat_since {K : PySem.W.Frag} {mg : Str → Option Value} (T : Top K mg) : NoAttr K T.f_Seat "since" := T.na_Seat _ (List.mem_cons_of_mem _ (List.mem_cons_self))
theorem Top.na_Seat_pledge {K : PySem.W.Frag} {mg : Str → Option Value} (T : Top K mg) : NoAttr K T.f_Seat "pledge" := T.na_Seat _ (List.mem_cons_of_mem _ (List.mem_cons_of_mem _ (List.mem_cons_self)))
theorem Top.na_Seat_given {K : PySem.W.Frag} {mg : Str → Option Value} (T : Top K mg) : NoAttr K T.f_Seat "given" := T.na_Seat _ (List.mem_cons_of_mem _ (List.mem_cons_of_mem _ (List.mem_cons_of_mem _ (List.mem_cons_self))))
theorem Top.na_Seat_drawn {K : PySem.W.Frag} {mg : Str → Option Value} (T : Top K mg) : NoAttr K T.f_Seat "drawn" := T.na_Seat _ (List.mem_cons_of_mem _ (List.mem_cons_of_mem _ (List.mem_cons_of_mem _ (List.mem_cons_of_mem _ (List.mem_cons_self)))))
theorem Top.na_Seat_shared {K : PySem.W.Frag} {mg : Str → Option Value} (T : Top K mg) : NoAttr K T.f_Seat "shared" := T.na_Seat _ (List.mem_cons_of_mem _ (List.mem_cons_of_mem _ (List.mem_cons_of_mem _ (List.mem_cons_of_mem _ (List.mem_cons_of_mem _ (List.mem_cons_self))))))
theorem Top.na_Seat_pledge_stakes {K : PySem.W.Frag} {mg : Str → Option Value} (T : Top K mg) : NoAttr K T.f_Seat "pledge_stakes" := T.na_Seat _ (List.mem_cons_of_mem _ (List.mem_cons_of_mem _ (List.mem_cons_of_mem _ (List.mem_cons_of_mem _ (List.mem_cons_of_mem _ (List.mem_cons_of_mem _ (List.mem_cons_self)))))))
theorem Top.na_Circle_line {K : PySem.W.Frag} {mg : Str → Option Value} (T : Top K mg) : NoAttr K T.f_Circle "line" := T.na_Circle _ (List.mem_cons_self)
theorem Top.na_Circle_stake {K : PySem.W.Frag} {mg : Str → Option Value} (T : Top K mg) : NoAttr K T.f_Circle "stake" := T.na_Circle _ (List.mem_cons_of_mem _ (List.mem_cons_self))
theorem Top.na_Circle_first_pledges {K : PySem.W.Frag} {mg : Str → Option Value} (T : Top K mg) : NoAttr K T.f_Circle "first_pledges" := T.na_Circle _ (List.mem_cons_of_mem _ (List.mem_cons_of_mem _ (List.mem_cons_self)))
theorem Top.na_Circle_wishes {K : PySem.W.Frag} {mg : Str → Option Value} (T : Top K mg) : NoAttr K T.f_Circle "wishes" := T.na_Circle _ (List.mem_cons_of_mem _ (List.mem_cons_of_mem _ (List.mem_cons_of_mem _ (List.mem_cons_self))))
theorem Top.na_Circle_bidding {K : PySem.W.Frag} {mg : Str → Option Value} (T : Top K mg) : NoAttr K T.f_Circle "bidding" := T.na_Circle _ (List.mem_cons_of_mem _ (List.mem_cons_of_mem _ (List.mem_cons_of_mem _ (List.mem_cons_of_mem _ (List.mem_cons_self)))))
theorem Top.na_Circle_seats {K : PySem.W.Frag} {mg : Str → Option Value} (T : Top K mg) : NoAttr K T.f_Circle "seats" := T.na_Circle _ (List.mem_cons_of_mem _ (List.mem_cons_of_mem _ (List.mem_cons_of_mem _ (List.mem_cons_of_mem _ (List.mem_cons_of_mem _ (List.mem_cons_self))))))
theorem Top.na_Circle_open_round {K : PySem.W.Frag} {mg : Str → Option Value} (T : Top K mg) : NoAttr K T.f_Circle "open_round" := T.na_Circle _ (List.mem_cons_of_mem _ (List.mem_cons_of_mem _ (List.mem_cons_of_mem _ (List.mem_cons_of_mem _ (List.mem_cons_of_mem _ (List.mem_cons_of_mem _ (List.mem_cons_self)))))))
theorem Top.na_Circle_rests_due {K : PySem.W.Frag} {mg : Str → Option Value} (T : Top K mg) : NoAttr K T.f_Circle "rests_due" := T.na_Circle _ (List.mem_cons_of_mem _ (List.mem_cons_of_mem _ (List.mem_cons_of_mem _ (List.mem_cons_of_mem _ (List.mem_cons_of_mem _ (List.mem_cons_of_mem _ (List.mem_cons_of_mem _ (List.mem_cons_self))))))))
theorem Top.na_Circle_chest {K : PySem.W.Frag} {mg : Str → Option Value} (T : Top K mg) : NoAttr K T.f_Circle "chest" := T.na_Circle _ (List.mem_cons_of_mem _ (List.mem_cons_of_mem _ (List.mem_cons_of_mem _ (List.mem_cons_of_mem _ (List.mem_cons_of_mem _ (List.mem_cons_of_mem _ (List.mem_cons_of_mem _ (List.mem_cons_of_mem _ (List.mem_cons_self)))))))))
theorem Top.na_Circle_flows {K : PySem.W.Frag} {mg : Str → Option Value} (T : Top K mg) : NoAttr K T.f_Circle "flows" := T.na_Circle _ (List.mem_cons_of_mem _ (List.mem_cons_of_mem _ (List.mem_cons_of_mem _ (List.mem_cons_of_mem _ (List.mem_cons_of_mem _ (List.mem_cons_of_mem _ (List.mem_cons_of_mem _ (List.mem_cons_of_mem _ (List.mem_cons_of_mem _ (List.mem_cons_self))))))))))
theorem Top.na_Table_sitters {K : PySem.W.Frag} {mg : Str → Option Value} (T : Top K mg) : NoAttr K T.f_Table "sitters" := T.na_Table _ (List.mem_cons_self)
theorem Top.na_Table_circle {K : PySem.W.Frag} {mg : Str → Option Value} (T : Top K mg) : NoAttr K T.f_Table "circle" := T.na_Table _ (List.mem_cons_of_mem _ (List.mem_cons_self))
theorem Top.na_Table_payments {K : PySem.W.Frag} {mg : Str → Option Value} (T : Top K mg) : NoAttr K T.f_Table "payments" := T.na_Table _ (List.mem_cons_of_mem _ (List.mem_cons_of_mem _ (List.mem_cons_self)))
theorem Top.na_Table_offers {K : PySem.W.Frag} {mg : Str → Option Value} (T : Top K mg) : NoAttr K T.f_Table "offers" := T.na_Table _ (List.mem_cons_of_mem _ (List.mem_cons_of_mem _ (List.mem_cons_of_mem _ (List.mem_cons_self))))
theorem Top.na_Table_closed {K : PySem.W.Frag} {mg : Str → Option Value} (T : Top K mg) : NoAttr K T.f_Table "closed" := T.na_Table _ (List.mem_cons_of_mem _ (List.mem_cons_of_mem _ (List.mem_cons_of_mem _ (List.mem_cons_of_mem _ (List.mem_cons_self)))))
theorem Top.na_House_books {K : PySem.W.Frag} {mg : Str → Option Value} (T : Top K mg) : NoAttr K T.f_House "books" := T.na_House _ (List.mem_cons_self)
theorem Top.na_House_kept {K : PySem.W.Frag} {mg : Str → Option Value} (T : Top K mg) : NoAttr K T.f_House "kept" := T.na_House _ (List.mem_cons_of_mem _ (List.mem_cons_self))
theorem Top.na_House_undone {K : PySem.W.Frag} {mg : Str → Option Value} (T : Top K mg) : NoAttr K T.f_House "undone" := T.na_House _ (List.mem_cons_of_mem _ (List.mem_cons_of_mem _ (List.mem_cons_self)))
section
variable {K : PySem.W.Frag} {mg : Str → Option Value}
def Top.tabs (T : Top K mg) : List (Addr × Str) := [(T.P_Books_member_names, ("Books.member_names" : Str) ++ (".<locals>." : Str) ++ ("<lambda>" : Str))]
theorem Top.hm_Books_member_names (T : Top K mg) : (T.P_Books_member_names, ("Books.member_names" : Str) ++ (".<locals>." : Str) ++ ("<lambda>" : Str)) ∈ T.tabs := by unfold Top.tabs; simp
theorem Top.hu_Books_member_names (T : Top K mg) : ∀ p ∈ T.tabs, p.1 = T.P_Books_member_names → p.2 = ("Books.member_names" : Str) ++ (".<locals>." : Str) ++ ("<lambda>" : Str) := by
  intro p hp e
  unfold Top.tabs at hp
  rcases List.mem_cons.mp hp with rfl | hp
  · exact rfl
  exact absurd hp List.not_mem_nil
end
end Su
namespace Su
/-! ### rules whose written part is named, for blocks -/
section
variable {X : Cx} {K : PySem.W.Frag}
theorem ix_listK (h : X.K = K := by rfl) : IxR X (rIxL K) := h ▸ ix_list
theorem ix_tupK (h : X.K = K := by rfl) : IxR X (rIxT K) := h ▸ ix_tup
theorem sl_listK (h : X.K = K := by rfl) : SlR X (rSlL K) := h ▸ sl_list
theorem call_len_seqK (h : X.K = K := by rfl) : CallR X (.builtin "len") (fun xs H Q => ∃ p ys, xs = [.ref p] ∧ (SqL K H p ys ∨ SqT K H p ys) ∧ Q (.int ys.length) H) := h ▸ call_len_seq
theorem op_in_seqK (h : X.K = K := by rfl) : OpR X (compareOp .In) (rIn K false) := h ▸ op_in_seq
theorem op_notIn_seqK (h : X.K = K := by rfl) : OpR X (compareOp .NotIn) (rIn K true) := h ▸ op_notIn_seq
theorem call_list_ofK (h : X.K = K := by rfl) : CallR X (.type "list") (fun xs H Q => ∃ p ys, xs = [.ref p] ∧ (SqL K H p ys ∨ SqT K H p ys) ∧ ∀ l, H l = none → Q (.ref l) (upd H l (.lst ys))) := h ▸ call_list_of
theorem call_isiK' (h : X.K = K := by rfl) : CallR X (.builtin "isinstance") (rIsi K) := h ▸ call_isi
end

end Su
namespace Su
theorem chain_le' {σ : L2.St} {H : Hp} {ta tb tc : TE} {a b c : Int} (h1 : Ev ta σ H (.int a)) (h2 : Ev tb σ H (.int b)) (h3 : Ev tc σ H (.int c)) :
    Ev (tChain (rI0 fun i j => .bl (decide (i ≤ j))) (rI0 fun i j => .bl (decide (i ≤ j))) ta tb tc) σ H (.bl (decide (a ≤ b) && decide (b ≤ c))) := fun H1 e Q q =>
  h1 H1 e _ fun H2 e2 => h2 H2 (e.trans e2) _ fun H3 e3 => ⟨a, b, rfl, rfl, decide (a ≤ b), rfl, by
    cases hd : decide (a ≤ b) with
    | true =>
      show tc σ H3 _
      exact h3 H3 ((e.trans e2).trans e3) _ fun H4 e4 => ⟨b, c, rfl, rfl, by rw [hd] at q; exact q H4 ((e2.trans e3).trans e4)⟩
    | false =>
      rw [hd] at q
      exact q H3 (e2.trans e3)⟩
theorem chain_le {σ : L2.St} {H : Hp} {ta tb tc : TE} {a b c : Int} (h1 : Ev ta σ H (.int a)) (h2 : Ev tb σ H (.int b)) (h3 : Ev tc σ H (.int c)) :
    EvT (tTest (tChain (rI0 fun i j => .bl (decide (i ≤ j))) (rI0 fun i j => .bl (decide (i ≤ j))) ta tb tc)) σ H (decide (a ≤ b) && decide (b ≤ c)) := fun H1 e Q q =>
  h1 H1 e _ fun H2 e2 => h2 H2 (e.trans e2) _ fun H3 e3 => ⟨a, b, rfl, rfl, decide (a ≤ b), rfl, by
    cases hd : decide (a ≤ b) with
    | true =>
      show tc σ H3 _
      exact h3 H3 ((e.trans e2).trans e3) _ fun H4 e4 => ⟨b, c, rfl, rfl, decide (b ≤ c), rfl, by rw [hd] at q; exact q H4 ((e2.trans e3).trans e4)⟩
    | false =>
      rw [hd] at q
      exact ⟨false, rfl, q H3 (e2.trans e3)⟩⟩
theorem et_chain {f g : Int → Int → Bool} {σ : L2.St} {H : Hp} {ta tb tc : TE} {a b c : Int} (h1 : Ev ta σ H (.int a)) (h2 : Ev tb σ H (.int b)) (h3 : Ev tc σ H (.int c)) :
    EvT (tTest (tChain (rI0 fun i j => .bl (f i j)) (rI0 fun i j => .bl (g i j)) ta tb tc)) σ H (f a b && g b c) := fun H1 e Q q =>
  h1 H1 e _ fun H2 e2 => h2 H2 (e.trans e2) _ fun H3 e3 => ⟨a, b, rfl, rfl, f a b, rfl, by
    cases hd : f a b with
    | true =>
      show tc σ H3 _
      exact h3 H3 ((e.trans e2).trans e3) _ fun H4 e4 => ⟨b, c, rfl, rfl, g b c, rfl, by rw [hd] at q; exact q H4 ((e2.trans e3).trans e4)⟩
    | false =>
      rw [hd] at q
      exact ⟨false, rfl, q H3 (e2.trans e3)⟩⟩

end Su
namespace Su
/-! ### the drawn numbers -/
def Rows (m : Nat) (rows : List Int) : Prop := m ≤ rows.length ∧ rows.length ≤ m + 63 ∧ ∀ x ∈ rows, -(10 ^ 18) < x ∧ x < 10 ^ 18
theorem Rows.add {rows : List Int} {x : Int} (h : ∀ x ∈ rows, -(10 ^ 18) < x ∧ x < 10 ^ 18) (h1 : -(10 ^ 18) < x) (h2 : x < 10 ^ 18) : ∀ y ∈ rows ++ [x], -(10 ^ 18) < y ∧ y < 10 ^ 18 := fun y hy => by
  rcases List.mem_append.mp hy with h' | h'
  · exact h y h'
  · obtain rfl := List.mem_singleton.mp h'
    exact ⟨h1, h2⟩
theorem Rows.get {m : Nat} {rows : List Int} (h : Rows m rows) (i : Nat) : -(10 ^ 18) < rows.getD i 0 ∧ rows.getD i 0 < 10 ^ 18 := by
  by_cases hi : i < rows.length
  · rw [List.getD_eq_getElem?_getD, List.getElem?_eq_getElem hi]
    exact h.2.2 _ (List.getElem_mem hi)
  · rw [List.getD_eq_getElem?_getD, List.getElem?_eq_none (by omega)]
    decide
section
variable {P : Program} {w : World} {K : PySem.W.Frag} {mg : Str → Option Value} {base : Heap}
def spDraws (K : PySem.W.Frag) : Sp := fun vs H Q _ => ∃ (a : Addr) (ns : List Int) (m : Nat), vs = [.ref a, .int (m : Int)] ∧ SqL K H a (ns.map V.int) ∧ ns.length ≤ 63 ∧ m ≤ 1000 ∧
  ∀ rows H' p, H p = none → Ex H H' → H' p = some (.lst (rows.map V.int)) → Rows m rows → Q (.ref p) H'
theorem spN_draws {K : PySem.W.Frag} {a : Addr} {ns : List Int} {m : Nat} {H : Hp} (hS : SqL K H a (ns.map V.int)) (hl : ns.length ≤ 63) (hm : m ≤ 1000) : SpN (spDraws K) [.ref a, .int (m : Int)] H (fun xs => ∃ rows : List Int, Rows m rows ∧ xs = rows.map V.int) :=
  fun H1 e Q q E => ⟨a, ns, m, rfl, ex_l e hS, hl, hm, fun rows H' p hp e' h' hr => q _ p H' ⟨rows, hr, rfl⟩ hp e' h'⟩
def DrI (H0 : Hp) (a p : Addr) (m i : Nat) (σ : L2.St) (H : Hp) : Prop := ∃ (rows : List Int) (mix : Int) (y4 y5 : Option V), σ = [some (.ref a), some (.int (m : Int)), some (.ref p), some (.int mix), y4, y5] ∧ Ex H0 H ∧ H p = some (.lst (rows.map V.int)) ∧
  rows.length ≤ m + i ∧ 0 ≤ mix ∧ mix < 2147483647 ∧ ∀ x ∈ rows, -(10 ^ 18) < x ∧ x < 10 ^ 18
theorem ok__law_draws {f : Addr} {fd : FuncData} {k : Nat} (F : Fun K "_law_draws" "_law_draws" s__law_draws f fd) (T : Top K mg) : FnOk P w K mg base CX0 (k + 1) f fd ["_law_script", "_law_many"] (spDraws K) := by
  have nd := sc__law_draws.nd
  refine F.ok sc__law_draws (fun vs H Q E h => ?_) (fun cdv A outer s H vs Q E hr h => ?_)
  · obtain ⟨a, ns, m, rfl, _⟩ := h
    rfl
  · obtain ⟨a, ns, m, rfl, hS, hlen, hm, q⟩ := h
    refine ⟨_, (pss_cons (ps_set (i := 2) nd rfl (.inl rfl) (pe_lst pa_nil))
      (pss_cons (ps_set (i := 3) nd rfl (.inl rfl) pe_int)
      (pss_cons (ps_for PassesOwn.never rfl (pi_list (pv 0)) (pg_name (i := 4) nd rfl (.inl rfl))
        (pss_cons (ps_set (i := 3) nd rfl (.inl rfl) (pe_op op_mod (pe_op op_add (pe_op op_mul (pv 3) pe_int) (pv 4)) pe_int))
          (pss_cons (ps_set (i := 5) nd rfl (.inl rfl) (pe_callB call_abs (by rfl) T.m_abs (by decide +kernel) (pa_cons (pv 4) pa_nil)))
          (pss_cons (ps_if (pt_cmpR op_lt (pv 5) (pe_op op_pow pe_int pe_int) (nomark _))
            (pss_cons (ps_expr (pe_bm PySem.F.plainAttrs_list PySem.F.slot_list_append PySem.F.type_list_append mt_append (pv 2) (pa_cons (pv 4) pa_nil)))
              (pss_one (ps_set (i := 5) nd rfl (.inl rfl) pe_int)))
            pss_nil)
          (pss_one (ps_while PassesOwn.never (PW.pt (pw_and (pt_cmpR op_gt (pv 5) pe_int (nomark _)) (pw_and1 (pt_cmpR op_lt (pe_callB call_len_seq (by rfl) T.m_len PySem.boot_len (pa_cons (pv 2) pa_nil)) (pv 1) (nomark _)))))
            (pss_cons (ps_expr (pe_bm PySem.F.plainAttrs_list PySem.F.slot_list_append PySem.F.type_list_append mt_append (pv 2) (pa_cons (pe_op op_mod (pv 5) pe_int) pa_nil)))
              (pss_one (ps_set (i := 5) nd rfl (.inl rfl) (pe_op op_fdiv (pv 5) pe_int))))))))))
      (pss_cons (ps_while PassesOwn.never (pt_cmpR op_lt (pe_callB call_len_seq (by rfl) T.m_len PySem.boot_len (pa_cons (pv 2) pa_nil)) (pv 1) (nomark _))
        (pss_cons (ps_set (i := 3) nd rfl (.inl rfl) (pe_op op_mod (pe_op op_add (pe_op op_mul (pv 3) pe_int) pe_int) pe_int))
          (pss_one (ps_expr (pe_bm PySem.F.plainAttrs_list PySem.F.slot_list_append PySem.F.type_list_append mt_append (pv 2) (pa_cons (pe_op op_mod (pe_op op_mul (pv 3) (pv 3)) pe_int) pa_nil))))))
      (pss_one (ps_ret (pv 2))))))), ?_⟩
    -- rows = []; mix = 1
    refine q_asgL (el_lst ea_nil (by decide)) fun p H1 hp e1 h1 => ?_
    have hS1 := ex_l e1 hS
    refine q_asg (by walk_at "ev") fun H2 e2 => ?_
    refine q_forL (by walk_at "ev") (ex_l e2 hS1) (DrI H a p m) ?_ ?_ ?_ ?_
    · intro H3 e3
      exact ⟨[], 1, none, none, rfl, (e1.trans e2).trans e3, e3 p _ (e2 p _ h1), Nat.zero_le _, by omega, by omega, fun x hx => by cases hx⟩
    · rintro i σ' H' _ ⟨rows, mix, y4, y5, rfl, ex, _⟩
      exact ex_l ex hS
    · rintro i x σ' H' hx ⟨rows, mix, y4, y5, rfl, ex, hr', hrl, m0, m1, hb⟩
      obtain ⟨c, rfl⟩ : ∃ c : Int, x = .int c := by
        rw [List.getElem?_map] at hx
        cases hc : ns[i]? with
        | none => rw [hc] at hx; cases hx
        | some c => rw [hc] at hx; exact ⟨c, (Option.some.inj hx).symm⟩
      have hi : i < 63 := by
        have := (List.getElem?_eq_some_iff.mp hx).1
        rw [List.length_map] at this
        omega
      refine q_asg (by walk_at "ev") fun H3 e3 => ?_
      have m0' := Int.emod_nonneg (mix * 31 + c) (show (2147483647 : Int) ≠ 0 by decide)
      have m1' := Int.emod_lt_of_pos (mix * 31 + c) (show (0 : Int) < 2147483647 by decide)
      generalize (mix * 31 + c) % 2147483647 = mix' at m0' m1' ⊢
      refine q_asg (by walk_at "ev") fun H4 e4 => ?_
      have hr4 := ex_g e4 (ex_g e3 hr')
      have ex4 := (ex.trans e3).trans e4
      have r0 : 0 ≤ (if c < 0 then -c else c) := by split <;> omega
      have rc : (if c < 0 then -c else c) < 10 ^ 18 → -(10 ^ 18) < c ∧ c < 10 ^ 18 := by split <;> omega
      generalize (if c < 0 then -c else c) = rest at r0 rc ⊢
      -- what stands behind the if: the while
      have hwh : ∀ (rows' : List Int) (rest' : Int) (y4' : Option V) (H5 : Hp), Ex H H5 → H5 p = some (.lst (rows'.map V.int)) → rows'.length ≤ m + (i + 1) → 0 ≤ rest' → (0 < rest' → rows'.length ≤ m + i) → (∀ x ∈ rows', -(10 ^ 18) < x ∧ x < 10 ^ 18) →
          ∀ (tc : TT) (tb : TS) (D : Ends), True → True := fun _ _ _ _ _ _ _ _ _ _ _ _ _ _ => trivial
      clear hwh
      refine q_when (by walk_at "et") (fun hb' H5 e5 => ?_) (fun hb' H5 e5 => ?_)
      · have hlt : rest < 10 ^ 18 := of_decide_eq_true hb'
        obtain ⟨c1, c2⟩ := rc hlt
        refine q_app (ex_g e5 hr4) (by walk_at "ev") (by walk_at "ev") (by rw [List.length_map]; omega) fun H6 e6 => ?_
        refine s_asg (by walk_at "ev") fun H7 e7 => ?_
        have hp7 : H7 p = some (.lst ((rows ++ [c]).map V.int)) := e7 p _ (by rw [upd_same, List.map_append]; rfl)
        have ex7 : Ex H H7 := (ex_up ((ex4.trans e5).trans e6) hp).trans e7
        refine s_while (fun n σ2 H2 => n = 0 ∧ σ2 = [some (.ref a), some (.int (m : Int)), some (.ref p), some (.int mix'), some (.int c), some (.int 0)] ∧ Ex H H2 ∧ H2 p = some (.lst ((rows ++ [c]).map V.int))) 0 ⟨rfl, rfl, ex7, hp7⟩ ?_
        rintro n σ2 H2 ⟨rfl, rfl, ex2, hp2⟩
        refine ⟨_, by walk_at "et", fun hb2 => ?_, fun hb2 H8 e8 => ?_⟩
        · simp at hb2
        · exact ⟨rows ++ [c], mix', _, _, rfl, ex2.trans e8, e8 p _ hp2, by rw [List.length_append]; show rows.length + 1 ≤ _; omega, m0', m1', Rows.add hb c1 c2⟩
      · refine s_while (fun n σ2 H2 => ∃ (rows' : List Int) (rest' : Int), σ2 = [some (.ref a), some (.int (m : Int)), some (.ref p), some (.int mix'), some (.int c), some (.int rest')] ∧ n = rest'.toNat ∧ Ex H H2 ∧ H2 p = some (.lst (rows'.map V.int)) ∧ rows'.length ≤ m + i ∧ 0 ≤ rest' ∧ ∀ x ∈ rows', -(10 ^ 18) < x ∧ x < 10 ^ 18) rest.toNat
          ⟨rows, rest, rfl, rfl, ex4.trans e5, ex_g e5 hr4, hrl, r0, hb⟩ ?_
        rintro n σ2 H2 ⟨rows', rest', rfl, rfl, ex2, hp2, hrl', r0', hb'⟩
        refine ⟨_, by walk_at "et", fun hb2 H8 e8 => ?_, fun hb2 H8 e8 => ?_⟩
        · have hb3 := Bool.and_eq_true_iff.mp hb2
          have hpos : 0 < rest' := of_decide_eq_true hb3.1
          have hlm : ((rows'.map V.int).length : Int) < m := of_decide_eq_true hb3.2
          rw [List.length_map] at hlm
          refine ⟨fun σ3 H3 => ∃ n', n' < rest'.toNat ∧ ∃ (rows' : List Int) (rest' : Int), σ3 = [some (.ref a), some (.int (m : Int)), some (.ref p), some (.int mix'), some (.int c), some (.int rest')] ∧ n' = rest'.toNat ∧ Ex H H3 ∧ H3 p = some (.lst (rows'.map V.int)) ∧ rows'.length ≤ m + i ∧ 0 ≤ rest' ∧ ∀ x ∈ rows', -(10 ^ 18) < x ∧ x < 10 ^ 18, fun _ _ h => h, ?_⟩
          refine q_app (ex_g e8 hp2) (by walk_at "ev") (by walk_at "ev") (by rw [List.length_map]; omega) fun H9 e9 => ?_
          refine s_asg (by walk_at "ev") fun H10 e10 => ?_
          have d0 := Int.emod_nonneg rest' (show (1000003 : Int) ≠ 0 by decide)
          have d1 := Int.emod_lt_of_pos rest' (show (0 : Int) < 1000003 by decide)
          refine ⟨(rest' / 1000003).toNat, by omega, rows' ++ [rest' % 1000003], rest' / 1000003, rfl, rfl, (ex_up ((ex2.trans e8).trans e9) hp).trans e10, e10 p _ (by rw [upd_same, List.map_append]; rfl), ?_, by omega, Rows.add hb' (by omega) (by omega)⟩
          rw [List.length_append]
          show rows'.length + 1 ≤ _
          omega
        · exact ⟨rows', mix', _, _, rfl, ex2.trans e8, e8 p _ hp2, by omega, m0', m1', hb'⟩
    · rintro σ' H' ⟨rows, mix, y4, y5, rfl, ex, hr', hrl, m0, m1, hb⟩
      rw [List.length_map] at hrl
      refine q_while (fun n σ2 H2 => ∃ (rows : List Int) (mix : Int), σ2 = [some (.ref a), some (.int (m : Int)), some (.ref p), some (.int mix), y4, y5] ∧ n = m - rows.length ∧ Ex H H2 ∧ H2 p = some (.lst (rows.map V.int)) ∧ rows.length ≤ m + 63 ∧ 0 ≤ mix ∧ mix < 2147483647 ∧ ∀ x ∈ rows, -(10 ^ 18) < x ∧ x < 10 ^ 18)
        (m - rows.length) ⟨rows, mix, rfl, rfl, ex, hr', by omega, m0, m1, hb⟩ ?_
      rintro n σ2 H2 ⟨rows, mix, rfl, rfl, ex, hr', hrl, m0, m1, hb⟩
      refine ⟨_, by walk_at "et", fun hb2 H8 e8 => ?_, fun hb2 H8 e8 => ?_⟩
      · have hlm : ((rows.map V.int).length : Int) < m := of_decide_eq_true hb2
        rw [List.length_map] at hlm
        refine ⟨fun σ3 H3 => ∃ n', n' < m - rows.length ∧ ∃ (rows : List Int) (mix : Int), σ3 = [some (.ref a), some (.int (m : Int)), some (.ref p), some (.int mix), y4, y5] ∧ n' = m - rows.length ∧ Ex H H3 ∧ H3 p = some (.lst (rows.map V.int)) ∧ rows.length ≤ m + 63 ∧ 0 ≤ mix ∧ mix < 2147483647 ∧ ∀ x ∈ rows, -(10 ^ 18) < x ∧ x < 10 ^ 18, fun _ _ h => h, ?_⟩
        refine q_asg (by walk_at "ev") fun H9 e9 => ?_
        have m0' := Int.emod_nonneg (mix * 48271 + 11) (show (2147483647 : Int) ≠ 0 by decide)
        have m1' := Int.emod_lt_of_pos (mix * 48271 + 11) (show (0 : Int) < 2147483647 by decide)
        generalize (mix * 48271 + 11) % 2147483647 = mix' at m0' m1' ⊢
        refine s_app (ex_g e9 (ex_g e8 hr')) (by walk_at "ev") (by walk_at "ev") (by rw [List.length_map]; omega) fun H10 e10 => ?_
        have d0 := Int.emod_nonneg (mix' * mix') (show (999983 : Int) ≠ 0 by decide)
        have d1 := Int.emod_lt_of_pos (mix' * mix') (show (0 : Int) < 999983 by decide)
        refine ⟨m - (rows.length + 1), by omega, rows ++ [mix' * mix' % 999983], mix', rfl, by rw [List.length_append]; rfl, ex_up (((ex.trans e8).trans e9).trans e10) hp, by rw [upd_same, List.map_append]; rfl, ?_, m0', m1', Rows.add hb (by omega) (by omega)⟩
        rw [List.length_append]
        show rows.length + 1 ≤ _
        omega
      · refine s_ret (by walk_at "ev") fun H9 e9 => ?_
        have hlm : ¬ ((rows.map V.int).length : Int) < m := of_decide_eq_false hb2
        rw [List.length_map] at hlm
        exact q rows H9 p hp ((ex.trans e8).trans e9) (e9 p _ (e8 p _ hr')) ⟨by omega, hrl, hb⟩
end

end Su
namespace Su
/-! ### comprehensions over enumerate and zip -/
def dropAt (H : Hp) (D : Addr) : Hp := fun b => if b = D then none else H b
theorem drop_ex {H : Hp} {D : Addr} : Ex (dropAt H D) H := fun a o e => by
  unfold dropAt at e
  split at e
  · cases e
  · exact e
theorem drop_self {H : Hp} {D : Addr} : dropAt H D D = none := by unfold dropAt; rw [if_pos rfl]
theorem drop_of {H : Hp} {D T : Addr} {o : HO} (e : H T = some o) (n : T ≠ D) : dropAt H D T = some o := by unfold dropAt; rw [if_neg n]; exact e
theorem ex_drop {H H1 : Hp} {D : Addr} (e : Ex H1 H) (n : H1 D = none) : Ex H1 (dropAt H D) := fun a o h => drop_of (e a o h) fun z => by rw [z, n] at h; cases h
theorem cw_turn2 {H H' Hb : Hp} {t : TT} {te : TE} {f : Nat → Bool} {v : Nat → V} {Dl : Addr} {i : Nat} {σ2 : L2.St} (p : Cw H f v Dl i H') (hi : i < 50000) (hb : Ex Hb H') (ht : EvT t σ2 Hb (f i)) (he : f i = true → Ev te σ2 Hb (v i)) :
    t σ2 H' fun b H3 => if b = true then te σ2 H3 fun y H4 => ∃ acc, H4 Dl = some (.lst acc) ∧ acc.length < sizeLine ∧ Cw H f v Dl (i + 1) (upd H4 Dl (.lst (acc ++ [y]))) else Cw H f v Dl (i + 1) H3 := by
  obtain ⟨p1, p2, p3⟩ := p
  refine ht H' hb _ fun H3 e3 => ?_
  cases hf : f i with
  | true =>
    show te σ2 H3 fun y H4 => ∃ acc, H4 Dl = some (.lst acc) ∧ acc.length < sizeLine ∧ Cw H f v Dl (i + 1) (upd H4 Dl (.lst (acc ++ [y])))
    refine he hf H3 (hb.trans e3) _ fun H4 e4 => ⟨given i f v, e4 Dl _ (e3 Dl _ p3), sz_lt (by have := given_len i f v; omega), p1, Ex.mut ((p2.trans e3).trans e4) p1, ?_⟩
    rw [given_yes hf]
    exact upd_same
  | false =>
    show Cw H f v Dl (i + 1) H3
    refine ⟨p1, p2.trans e3, ?_⟩
    rw [given_no hf]
    exact e3 Dl _ p3
theorem cw_ex {H H1 H2 : Hp} {f : Nat → Bool} {v : Nat → V} {Dl : Addr} {i : Nat} (p : Cw H f v Dl i H1) (e : Ex H1 H2) : Cw H f v Dl i H2 := ⟨p.1, p.2.1.trans e, e Dl _ p.2.2⟩
/-- what a target does with a value: from the slots s to s2 -/
def Tgt (g : TG) (x : V) (σ σ2 : L2.St) (H : Hp) : Prop := ∀ H2, Ex H H2 → ∀ Q : L2.St → Hp → Prop, Q σ2 H2 → g x σ H2 Q
theorem tg_name {i : Nat} {x : V} {σ : L2.St} {H : Hp} : Tgt (gName i) x σ (σ.set i (some x)) H := fun _ _ _ q => q
theorem tg_two {K : PySem.W.Frag} {g1 g2 : TG} {T : Addr} {x y : V} {σ σ1 σ2 : L2.St} {H : Hp} (h : SqT K H T [x, y]) (h1 : Tgt g1 x σ σ1 H) (h2 : Tgt g2 y σ1 σ2 H) : Tgt (gTup K 2 (gCons g1 (gCons g2 gNil))) (.ref T) σ σ2 H := fun H2 e Q q =>
  ⟨T, [x, y], rfl, ex_t e h, rfl, x, [y], rfl, h1 H2 e _ ⟨y, [], rfl, h2 H2 e _ ⟨rfl, q⟩⟩⟩
theorem tg_three {K : PySem.W.Frag} {g1 g2 g3 : TG} {T : Addr} {x y z : V} {σ σ1 σ2 σ3 : L2.St} {H : Hp} (h : SqT K H T [x, y, z]) (h1 : Tgt g1 x σ σ1 H) (h2 : Tgt g2 y σ1 σ2 H) (h3 : Tgt g3 z σ2 σ3 H) : Tgt (gTup K 3 (gCons g1 (gCons g2 (gCons g3 gNil)))) (.ref T) σ σ3 H := fun H2 e Q q =>
  ⟨T, [x, y, z], rfl, ex_t e h, rfl, x, [y, z], rfl, h1 H2 e _ ⟨y, [z], rfl, h2 H2 e _ ⟨z, [], rfl, h3 H2 e _ ⟨rfl, q⟩⟩⟩⟩
section
variable {K : PySem.W.Frag} {σ : L2.St} {H : Hp} {t : TT} {te : TE} {g : TG} {vs : List Nat} {a b : Addr} {xs ys : List V} {ta : TA}
theorem et_yes {σ : L2.St} {H : Hp} : EvT tYes σ H true := fun H1 _ _ q => q H1 (Ex.refl H1)
theorem el_lcLg {tl : TE} (f : Nat → Bool) (v : Nat → V) (h : Ev tl σ H (.ref a)) (hx : SqL K H a xs) (hz : xs.length ≤ 40000)
    (hs : ∀ (i : Nat) (x : V) Hb, Ex H Hb → xs[i]? = some x → ∃ σ2, Tgt g x (wipe σ vs) σ2 Hb ∧ wipe σ2 vs = wipe σ vs ∧ EvT t σ2 Hb (f i) ∧ (f i = true → Ev te σ2 Hb (v i))) :
    EvL (tLc (iList K tl) g t te vs) σ H (given xs.length f v) := fun H0 e Q q => h H0 e _ fun H1 e1 => ⟨a, rfl, ⟨xs, ex_l (e.trans e1) hx⟩, fun Dl hD =>
  lc_list (xs := xs) (Cw H1 f v Dl) ⟨hD, Ex.new hD, upd_same⟩ (fun i H' _ p => ex_l ((e.trans e1).trans p.2.1) hx) (fun i x H' hi p => by
    obtain ⟨σ2, h1, h2, h3, h4⟩ := hs i x H1 (e.trans e1) hi
    exact h1 H' p.2.1 _ ⟨h2, cw_turn2 p (by have := (List.getElem?_eq_some_iff.mp hi).1; omega) p.2.1 h3 h4⟩)
    (fun H' p => q Dl H' (fresh_back e1 p.1) (e1.trans p.2.1) p.2.2)⟩
theorem el_lcE (f : Nat → Bool) (v : Nat → V) (h : EvA ta σ H [.ref a]) (hx : SqL K H a xs) (hz : xs.length ≤ 40000)
    (hs : ∀ (i : Nat) (x : V) T Hb, Ex H Hb → xs[i]? = some x → Hb T = some (.tup [.int (i : Nat), x]) → ∃ σ2, Tgt g (.ref T) (wipe σ vs) σ2 Hb ∧ wipe σ2 vs = wipe σ vs ∧ EvT t σ2 Hb (f i) ∧ (f i = true → Ev te σ2 Hb (v i))) :
    EvL (tLc (iEnum K ta) g t te vs) σ H (given xs.length f v) := fun H0 e Q q => h H0 e _ fun H1 e1 => ⟨a, xs, rfl, ex_l (e.trans e1) hx, fun Dl hD => by
  refine ⟨fun i m H' => m = xs.length - i ∧ i ≤ xs.length ∧ Cw H1 f v Dl i H', ⟨xs.length, by simp, Nat.zero_le _, hD, Ex.new hD, upd_same⟩, ?_⟩
  rintro i m H' ⟨rfl, hi, p⟩
  have hX := ex_l ((e.trans e1).trans p.2.1) hx
  by_cases hlt : i < xs.length
  · refine .inr ⟨⟨xs, xs[i], hX, List.getElem?_eq_getElem hlt⟩, Cw H1 f v Dl (i + 1), fun H2 p' => ⟨xs.length - (i + 1), by omega, rfl, hlt, p'⟩, fun y H2 hy => ?_⟩
    obtain ⟨T, x, rfl, nT, rfl, hxx⟩ := hy
    have gi := hxx xs hX
    have eT : Ex H' (upd H' T (.tup [.int (i : Nat), x])) := Ex.new nT
    have hTD : T ≠ Dl := fun z => by rw [z, p.2.2] at nT; cases nT
    have p2 := cw_ex p eT
    obtain ⟨σ2, h1, h2, h3, h4⟩ := hs i x T (dropAt (upd H' T (.tup [.int (i : Nat), x])) Dl) (ex_drop (((e.trans e1).trans p.2.1).trans eT) (fresh_back (e.trans e1) p.1)) gi (drop_of upd_same hTD)
    exact h1 _ drop_ex _ ⟨h2, cw_turn2 p2 (by omega) drop_ex h3 h4⟩
  · have ei : i = xs.length := by omega
    subst ei
    exact .inl ⟨⟨xs, hX, Nat.le_refl _⟩, q Dl H' (fresh_back e1 p.1) (e1.trans p.2.1) p.2.2⟩⟩
theorem el_lcZ (f : Nat → Bool) (v : Nat → V) (h : EvA ta σ H [.ref a, .ref b]) (hx : SqL K H a xs) (hy : SqL K H b ys) (hl : xs.length = ys.length) (hz : xs.length ≤ 40000)
    (hs : ∀ (i : Nat) (x y : V) T Hb, Ex H Hb → xs[i]? = some x → ys[i]? = some y → Hb T = some (.tup [x, y]) → ∃ σ2, Tgt g (.ref T) (wipe σ vs) σ2 Hb ∧ wipe σ2 vs = wipe σ vs ∧ EvT t σ2 Hb (f i) ∧ (f i = true → Ev te σ2 Hb (v i))) :
    EvL (tLc (RZ.iZipA K ta) g t te vs) σ H (given xs.length f v) := fun H0 e Q q => h H0 e _ fun H1 e1 => ⟨a, b, xs, ys, rfl, .inl ⟨ex_l (e.trans e1) hx, ex_l (e.trans e1) hy, fun Dl hD => by
  refine ⟨fun i m H' => m = xs.length - i ∧ i ≤ xs.length ∧ Cw H1 f v Dl i H', ⟨xs.length, by simp, Nat.zero_le _, hD, Ex.new hD, upd_same⟩, ?_⟩
  rintro i m H' ⟨rfl, hi, p⟩
  have hX := ex_l ((e.trans e1).trans p.2.1) hx
  have hY := ex_l ((e.trans e1).trans p.2.1) hy
  by_cases hlt : i < xs.length
  · have hlt2 : i < ys.length := by omega
    refine .inr ⟨⟨xs, ys, xs[i], ys[i], hX, hY, List.getElem?_eq_getElem hlt, List.getElem?_eq_getElem hlt2⟩, Cw H1 f v Dl (i + 1), fun H2 p' => ⟨xs.length - (i + 1), by omega, rfl, hlt, p'⟩, fun z H2 hzz => ?_⟩
    obtain ⟨T, x, y, rfl, nT, rfl, hxx, hyy⟩ := hzz
    have eT : Ex H' (upd H' T (.tup [x, y])) := Ex.new nT
    have hTD : T ≠ Dl := fun z => by rw [z, p.2.2] at nT; cases nT
    have p2 := cw_ex p eT
    obtain ⟨σ2, h1, h2, h3, h4⟩ := hs i x y T (dropAt (upd H' T (.tup [x, y])) Dl) (ex_drop (((e.trans e1).trans p.2.1).trans eT) (fresh_back (e.trans e1) p.1)) (hxx xs hX) (hyy ys hY) (drop_of upd_same hTD)
    exact h1 _ drop_ex _ ⟨h2, cw_turn2 p2 (by omega) drop_ex h3 h4⟩
  · have ei : i = xs.length := by omega
    subst ei
    exact .inl ⟨⟨xs, ys, hX, hY, .inl (Nat.le_refl _)⟩, q Dl H' (fresh_back e1 p.1) (e1.trans p.2.1) p.2.2⟩⟩⟩
theorem el_lcZT (f : Nat → Bool) (v : Nat → V) (h : EvA ta σ H [.ref a, .ref b]) (hx : SqT K H a xs) (hy : SqT K H b ys) (hl : xs.length = ys.length) (hz : xs.length ≤ 40000)
    (hs : ∀ (i : Nat) (x y : V) T Hb, Ex H Hb → xs[i]? = some x → ys[i]? = some y → Hb T = some (.tup [x, y]) → ∃ σ2, Tgt g (.ref T) (wipe σ vs) σ2 Hb ∧ wipe σ2 vs = wipe σ vs ∧ EvT t σ2 Hb (f i) ∧ (f i = true → Ev te σ2 Hb (v i))) :
    EvL (tLc (RZ.iZipA K ta) g t te vs) σ H (given xs.length f v) := fun H0 e Q q => h H0 e _ fun H1 e1 => ⟨a, b, xs, ys, rfl, .inr ⟨ex_t (e.trans e1) hx, ex_t (e.trans e1) hy, fun Dl hD => by
  refine ⟨fun i m H' => m = xs.length - i ∧ i ≤ xs.length ∧ Cw H1 f v Dl i H', ⟨xs.length, by simp, Nat.zero_le _, hD, Ex.new hD, upd_same⟩, ?_⟩
  rintro i m H' ⟨rfl, hi, p⟩
  have hX := ex_t ((e.trans e1).trans p.2.1) hx
  have hY := ex_t ((e.trans e1).trans p.2.1) hy
  by_cases hlt : i < xs.length
  · have hlt2 : i < ys.length := by omega
    refine .inr ⟨⟨xs, ys, xs[i], ys[i], hX, hY, List.getElem?_eq_getElem hlt, List.getElem?_eq_getElem hlt2⟩, Cw H1 f v Dl (i + 1), fun H2 p' => ⟨xs.length - (i + 1), by omega, rfl, hlt, p'⟩, fun z H2 hzz => ?_⟩
    obtain ⟨T, x, y, rfl, nT, rfl, hxx, hyy⟩ := hzz
    have eT : Ex H' (upd H' T (.tup [x, y])) := Ex.new nT
    have hTD : T ≠ Dl := fun z => by rw [z, p.2.2] at nT; cases nT
    have p2 := cw_ex p eT
    obtain ⟨σ2, h1, h2, h3, h4⟩ := hs i x y T (dropAt (upd H' T (.tup [x, y])) Dl) (ex_drop (((e.trans e1).trans p.2.1).trans eT) (fresh_back (e.trans e1) p.1)) (hxx xs hX) (hyy ys hY) (drop_of upd_same hTD)
    exact h1 _ drop_ex _ ⟨h2, cw_turn2 p2 (by omega) drop_ex h3 h4⟩
  · have ei : i = xs.length := by omega
    subst ei
    exact .inl ⟨⟨xs, ys, hX, hY, .inl (Nat.le_refl _)⟩, q Dl H' (fresh_back e1 p.1) (e1.trans p.2.1) p.2.2⟩⟩⟩
end

end Su
namespace Su
/-! ### data as a whole: _law_same of two alike -/
mutual
theorem dp_ex {K : PySem.W.Frag} {H H' : Hp} (e : Ex H H') : ∀ {x : V} {d : PyData}, Dp K H x d → Dp K H' x d
  | _, _, .non => .non
  | _, _, .bl b => .bl b
  | _, _, .int i => .int i
  | _, _, .str x => .str x
  | _, _, .lst h1 h2 => .lst (ex_l e h1) (dpa_ex e h2)
  | _, _, .tup h1 h2 => .tup (ex_t e h1) (dpa_ex e h2)
theorem dpa_ex {K : PySem.W.Frag} {H H' : Hp} (e : Ex H H') : ∀ {xs : List V} {ds : List PyData}, DpAll K H xs ds → DpAll K H' xs ds
  | _, _, .nil => .nil
  | _, _, .cons h1 h2 => .cons (dp_ex e h1) (dpa_ex e h2)
end
theorem dpa_len {K : PySem.W.Frag} {H : Hp} : ∀ {xs : List V} {ds : List PyData}, DpAll K H xs ds → xs.length = ds.length
  | _, _, .nil => rfl
  | _, _, .cons _ h2 => by rw [List.length_cons, List.length_cons, dpa_len h2]
theorem dpa_get {K : PySem.W.Frag} {H : Hp} : ∀ {xs : List V} {ds : List PyData} {i : Nat} {x : V}, DpAll K H xs ds → xs[i]? = some x → ∃ d, ds[i]? = some d ∧ Dp K H x d
  | _, _, _, _, .nil, e => by simp at e
  | _, _, 0, _, .cons h _, e => by simp at e; subst e; exact ⟨_, rfl, h⟩
  | _, _, i + 1, x, .cons _ h2, e => by
    obtain ⟨d, h1, h3⟩ := dpa_get (i := i) (x := x) h2 (by simpa using e)
    exact ⟨d, by simpa using h1, h3⟩
theorem dpa_of {K : PySem.W.Frag} {H : Hp} {α : Type} (f : α → V) (g : α → PyData) : ∀ l : List α, (∀ a ∈ l, Dp K H (f a) (g a)) → DpAll K H (l.map f) (l.map g)
  | [], _ => .nil
  | a :: r, h => .cons (h a List.mem_cons_self) (dpa_of f g r fun b hb => h b (List.mem_cons_of_mem _ hb))
def tyN : PyData → String
  | .none => "NoneType" | .bool _ => "bool" | .int _ => "int" | .str _ => "str" | .list _ => "list" | .tuple _ => "tuple" | .dict _ => "dict"
theorem ty_dp {K : PySem.W.Frag} {H : Hp} {x : V} {d : PyData} (h : Dp K H x d) : TyX K H x (.type (tyN d)) := by
  cases h with
  | non => exact .base .non
  | bl b => exact .base (.bl b)
  | int i => exact .base (.int i)
  | str s => exact .base (.str s)
  | lst h1 _ =>
    rcases h1 with (h1 | ⟨o, h1⟩) | ⟨o, its, n, h1, h2, _⟩
    · exact .base (.lst h1)
    · exact .base (.frz h1)
    · exact .kList h1 h2
  | tup h1 _ =>
    rcases h1 with (h1 | ⟨o, h1⟩) | ⟨o, its, n, h1, h2, _⟩
    · exact .base (.tup h1)
    · exact .fTuple h1
    · exact .kTuple h1 h2
theorem rc_isi_dp {K : PySem.W.Frag} {H : Hp} {x : V} {d : PyData} {n : String} {b : Bool} (h : Dp K H x d) (hk : kitB (tyN d) n = some b) : RC (rIsi K) [x, .ty n] H (.bl b) :=
  fun H1 e _ q => ⟨x, .ty n, .type (tyN d), .type n, b, rfl, .ty n, ty_dp (dp_ex e h), kit_ty hk, q H1 (Ex.refl H1)⟩
theorem kit_tab {t m : String} (ht : t = "NoneType" ∨ t = "bool" ∨ t = "int" ∨ t = "str" ∨ t = "list" ∨ t = "tuple") (hm : m = "bool" ∨ m = "int" ∨ m = "list" ∨ m = "tuple" ∨ m = "str") : ∃ b, kitB t m = some b := by
  rcases ht with rfl | rfl | rfl | rfl | rfl | rfl <;> rcases hm with rfl | rfl | rfl | rfl | rfl <;> first | exact ⟨true, by decide +kernel⟩ | exact ⟨false, by decide +kernel⟩
/-- data of ints, texts, None, bools, lists and tuples, n deep -/
inductive PlD : Nat → PyData → Prop
  | non {n : Nat} : PlD n .none
  | bool {n : Nat} (b : Bool) : PlD n (.bool b)
  | int {n : Nat} (i : Int) : PlD n (.int i)
  | str {n : Nat} (x : Str) : PlD n (.str x)
  | list {n : Nat} {xs : List PyData} : xs.length ≤ 1000 → (∀ x ∈ xs, PlD n x) → PlD (n + 1) (.list xs)
  | tuple {n : Nat} {xs : List PyData} : xs.length ≤ 1000 → (∀ x ∈ xs, PlD n x) → PlD (n + 1) (.tuple xs)
theorem PlD.ty {n : Nat} {d : PyData} (h : PlD n d) : tyN d = "NoneType" ∨ tyN d = "bool" ∨ tyN d = "int" ∨ tyN d = "str" ∨ tyN d = "list" ∨ tyN d = "tuple" := by
  cases h <;> simp [tyN]
theorem given_all {n : Nat} {v : V} : given n (fun _ => true) (fun _ => v) = List.replicate n v := by
  induction n with
  | zero => rfl
  | succ n ih => rw [given_yes rfl, ih, List.replicate_succ']
theorem all_rep (n : Nat) : (List.replicate n true).all id = true := by
  induction n with
  | zero => rfl
  | succ n ih => rw [List.replicate_succ, List.all_cons, ih]; rfl
section
variable {P : Program} {w : World} {K : PySem.W.Frag} {mg : Str → Option Value} {base : Heap}
theorem ev_isi {σ : L2.St} {H : Hp} {ta tb : TE} {x : V} {d : PyData} {n : String} {b : Bool} (ha : Ev ta σ H x) (hb : Ev tb σ H (.ty n)) (h : Dp K H x d) (hk : kitB (tyN d) n = some b) : Ev (tCB (rIsi K) (tCons ta (tCons tb tNil))) σ H (.bl b) := ev_cb (ea_cons ha (ea_cons hb ea_nil)) (rc_isi_dp h hk)
theorem ev_allT {σ : L2.St} {H : Hp} {te : TE} {n : Nat} (h : EvL te σ H (List.replicate n (V.bl true))) : Ev (tCB (rAll K) (tCons te tNil)) σ H (.bl true) := fun H1 e Q q =>
  h H1 e _ fun p H2 _ e2 h2 => ⟨p, List.replicate n true, rfl, sq_of (by rw [List.map_replicate]; exact h2), by rw [all_rep]; exact q H2 e2⟩
theorem rv_sc {H : Hp} {x : V} (h : scal x x = true) : RV rEq x x H (.bl true) := fun H1 e Q q => ⟨h, by rw [decide_eq_true rfl]; exact q H1 (Ex.refl H1)⟩
theorem rv_neb {H : Hp} {b : Bool} : RV rNe (.bl b) (.bl b) H (.bl false) := fun H1 e Q q => ⟨by cases b <;> rfl, by rw [decide_eq_true rfl]; exact q H1 (Ex.refl H1)⟩
end

end Su
namespace Su
section
variable {P : Program} {w : World} {K : PySem.W.Frag} {mg : Str → Option Value} {base : Heap}
def spSame (K : PySem.W.Frag) (n : Nat) : Sp := fun vs H Q _ => ∃ (x y : V) (d : PyData), vs = [x, y] ∧ PlD n d ∧ Dp K H x d ∧ Dp K H y d ∧ ∀ H', Ex H H' → Q (.bl true) H'
def spPrev (K : PySem.W.Frag) : Nat → Sp
  | 0 => fun _ _ _ _ => False
  | n + 1 => spSame K n
theorem spV_same {n : Nat} {x y : V} {d : PyData} {H : Hp} (hp : PlD n d) (h1 : Dp K H x d) (h2 : Dp K H y d) : SpV (spSame K n) [x, y] H (.bl true) := fun H1 e Q q _ => ⟨x, y, d, rfl, hp, dp_ex e h1, dp_ex e h2, q⟩
end
section
variable {P : Program} {w : World} {K : PySem.W.Frag} {mg : Str → Option Value} {base : Heap}
theorem ok__law_same (T : Top K mg) : ∀ n : Nat, FnOk P w K mg base CX0 (n + 1) T.f__law_same T.fd__law_same ["_law_told", "_law_due_here"] (spSame K n) := fun n => by
  have G__law_same : FnOk P w K mg base CX0 n T.f__law_same T.fd__law_same ["_law_told", "_law_due_here"] (spPrev K n) := by
    cases n with
    | zero => exact ⟨fun _ _ _ _ h => h.elim, fun _ _ _ _ _ _ _ _ _ _ _ _ _ h => h.elim⟩
    | succ n => exact ok__law_same T n
  have nd := sc__law_same.nd
  refine T.F__law_same.ok sc__law_same (fun vs H Q E h => ?_) (fun cdv A outer s H vs Q E hr h => ?_)
  · obtain ⟨x, y, d, rfl, _⟩ := h
    rfl
  · obtain ⟨x, y, d, rfl, hp, hx, hy, q⟩ := h
    refine ⟨_, (pss_cons (ps_if (PW.pt (pw_or (pt_cmpR op_ne (pe_callB call_isi (by rfl) T.m_isinstance (by decide +kernel) (pa_cons (pv 0) (pa_cons (pe_bltn (v := .ty "bool") (by rfl) T.m_bool (by decide +kernel) rfl) pa_nil))) (pe_callB call_isi (by rfl) T.m_isinstance (by decide +kernel) (pa_cons (pv 1) (pa_cons (pe_bltn (v := .ty "bool") (by rfl) T.m_bool (by decide +kernel) rfl) pa_nil))) (nomark _)) (pw_or1 (pt_cmpR op_ne (pe_callB call_isi (by rfl) T.m_isinstance (by decide +kernel) (pa_cons (pv 0) (pa_cons (pe_bltn (v := .ty "int") (by rfl) T.m_int (by decide +kernel) rfl) pa_nil))) (pe_callB call_isi (by rfl) T.m_isinstance (by decide +kernel) (pa_cons (pv 1) (pa_cons (pe_bltn (v := .ty "int") (by rfl) T.m_int (by decide +kernel) rfl) pa_nil))) (nomark _)))))
        (pss_one (ps_ret pe_bl))
        pss_nil)
      (pss_cons (ps_if (PW.pt (pw_or (pt_cmpR op_ne (pe_callB call_isi (by rfl) T.m_isinstance (by decide +kernel) (pa_cons (pv 0) (pa_cons (pe_bltn (v := .ty "list") (by rfl) T.m_list (by decide +kernel) rfl) pa_nil))) (pe_callB call_isi (by rfl) T.m_isinstance (by decide +kernel) (pa_cons (pv 1) (pa_cons (pe_bltn (v := .ty "list") (by rfl) T.m_list (by decide +kernel) rfl) pa_nil))) (nomark _)) (pw_or1 (pt_cmpR op_ne (pe_callB call_isi (by rfl) T.m_isinstance (by decide +kernel) (pa_cons (pv 0) (pa_cons (pe_bltn (v := .ty "tuple") (by rfl) T.m_tuple (by decide +kernel) rfl) pa_nil))) (pe_callB call_isi (by rfl) T.m_isinstance (by decide +kernel) (pa_cons (pv 1) (pa_cons (pe_bltn (v := .ty "tuple") (by rfl) T.m_tuple (by decide +kernel) rfl) pa_nil))) (nomark _)))))
        (pss_one (ps_ret pe_bl))
        pss_nil)
      (pss_cons (ps_if (PW.pt (pw_and (pt_not (pt_val (pe_callB call_isi (by rfl) T.m_isinstance (by decide +kernel) (pa_cons (pv 1) (pa_cons (pe_bltn (v := .ty "list") (by rfl) T.m_list (by decide +kernel) rfl) pa_nil))))) (pw_and1 (pt_not (pt_val (pe_callB call_isi (by rfl) T.m_isinstance (by decide +kernel) (pa_cons (pv 1) (pa_cons (pe_bltn (v := .ty "tuple") (by rfl) T.m_tuple (by decide +kernel) rfl) pa_nil))))))))
        (pss_one (ps_ret (pe_and (pe_cmpR op_eq (pe_callB call_isi (by rfl) T.m_isinstance (by decide +kernel) (pa_cons (pv 0) (pa_cons (pe_bltn (v := .ty "str") (by rfl) T.m_str (by decide +kernel) rfl) pa_nil))) (pe_callB call_isi (by rfl) T.m_isinstance (by decide +kernel) (pa_cons (pv 1) (pa_cons (pe_bltn (v := .ty "str") (by rfl) T.m_str (by decide +kernel) rfl) pa_nil))) (nomark _)) (pe_one (pe_cmpR op_eq (pv 0) (pv 1) (nomark _))))))
        pss_nil)
      (pss_one (ps_ret (pe_and (pe_cmpR op_eq (pe_callB call_len_seq (by rfl) T.m_len PySem.boot_len (pa_cons (pv 0) pa_nil)) (pe_callB call_len_seq (by rfl) T.m_len PySem.boot_len (pa_cons (pv 1) pa_nil)) (nomark _)) (pe_one (pe_callB (cr_all rfl) (by rfl) T.m_all (by decide +kernel) (pa_cons (pe_lc (own := [("_law_one", 2), ("_law_other", 3)]) (g := gTup K 2 (gCons (gName 2) (gCons (gName 3) gNil))) (tt := tYes) rfl nd (RZ.pi_zipA (by rfl) T.m_zip (pa_cons (pv 0) (pa_cons (pv 1) pa_nil))) (blkOk_by (own := [("_law_one", 2), ("_law_other", 3)]) (N := Su.N__law_same) (sc := defScope s__law_same) (by decide +kernel)) (fun _ _ _ _ _ => (pg_tup rfl (pgs_cons (pg_name (i := 2) nd rfl (.inl rfl)) (pgs_cons (pg_name (i := 3) nd rfl (.inl rfl)) pgs_nil)))) (fun _ _ _ _ _ => pts_nil) (fun _ _ _ _ _ => (pe_call G__law_same hr (by rfl) T.m__law_same T.F__law_same.kp T.b__law_same .nil pass0 (pa_cons (pv 2) (pa_cons (pv 3) pa_nil))))) pa_nil))))))))), ?_⟩
    have kb := fun (m : String) hm => kit_tab (m := m) hp.ty hm
    obtain ⟨b1, k1⟩ := kb "bool" (by simp)
    obtain ⟨b2, k2⟩ := kb "int" (by simp)
    obtain ⟨b3, k3⟩ := kb "list" (by simp)
    obtain ⟨b4, k4⟩ := kb "tuple" (by simp)
    obtain ⟨b5, k5⟩ := kb "str" (by simp)
    refine q_when (b := false) ?_ (fun h => by cases h) fun _ H1 e1 => ?_
    · exact et_or (a := false) (b := false) (et_test (ev_op (ev_isi (ev_var rfl) ev_c hx k1) (ev_isi (ev_var rfl) ev_c hy k1) rv_neb)) fun _ => et_test (ev_op (ev_isi (ev_var rfl) ev_c hx k2) (ev_isi (ev_var rfl) ev_c hy k2) rv_neb)
    have hx := dp_ex e1 hx
    have hy := dp_ex e1 hy
    refine q_when (b := false) ?_ (fun h => by cases h) fun _ H2 e2 => ?_
    · exact et_or (a := false) (b := false) (et_test (ev_op (ev_isi (ev_var rfl) ev_c hx k3) (ev_isi (ev_var rfl) ev_c hy k3) rv_neb)) fun _ => et_test (ev_op (ev_isi (ev_var rfl) ev_c hx k4) (ev_isi (ev_var rfl) ev_c hy k4) rv_neb)
    have hx := dp_ex e2 hx
    have hy := dp_ex e2 hy
    refine q_when (et_and (et_not (et_B (ev_isi (ev_var rfl) ev_c hy k3))) fun _ => et_not (et_B (ev_isi (ev_var rfl) ev_c hy k4))) (fun hb H3 e3 => ?_) (fun hb H3 e3 => ?_)
    · -- no list, no tuple
      have hx := dp_ex e3 hx
      have hy := dp_ex e3 hy
      have hsc : scal x x = true ∧ x = y := by
        cases hp with
        | non => cases hx; cases hy; exact ⟨rfl, rfl⟩
        | bool b => cases hx; cases hy; exact ⟨rfl, rfl⟩
        | int i => cases hx; cases hy; exact ⟨rfl, rfl⟩
        | str s => cases hx; cases hy; exact ⟨rfl, rfl⟩
        | list _ _ =>
          have z : b3 = true := Option.some.inj (k3.symm.trans (show kitB "list" "list" = some true by decide +kernel))
          rw [z] at hb
          exact absurd hb (by cases b4 <;> decide)
        | tuple _ _ =>
          have z : b4 = true := Option.some.inj (k4.symm.trans (show kitB "tuple" "tuple" = some true by decide +kernel))
          rw [z, Bool.not_true, Bool.and_false] at hb
          exact absurd hb (by decide)
      obtain ⟨hsc, rfl⟩ := hsc
      refine s_ret (v := .bl (true && true)) (ev_andV (ev_op (ev_isi (ev_var rfl) ev_c hx k5) (ev_isi (ev_var rfl) ev_c hy k5) (rv_sc (by cases b5 <;> rfl))) fun _ => ev_op (ev_var rfl) (ev_var rfl) (rv_sc hsc)) fun H4 e4 => q H4 (((e1.trans e2).trans e3).trans e4)
    · have hx := dp_ex e3 hx
      have hy := dp_ex e3 hy
      have ex3 := (e1.trans e2).trans e3
      cases hp with
      | non => exact absurd hb (by rw [← Option.some.inj ((show kitB "NoneType" "list" = some false by decide +kernel).symm.trans k3), ← Option.some.inj ((show kitB "NoneType" "tuple" = some false by decide +kernel).symm.trans k4)]; decide)
      | bool b => exact absurd hb (by rw [← Option.some.inj ((show kitB "bool" "list" = some false by decide +kernel).symm.trans k3), ← Option.some.inj ((show kitB "bool" "tuple" = some false by decide +kernel).symm.trans k4)]; decide)
      | int i => exact absurd hb (by rw [← Option.some.inj ((show kitB "int" "list" = some false by decide +kernel).symm.trans k3), ← Option.some.inj ((show kitB "int" "tuple" = some false by decide +kernel).symm.trans k4)]; decide)
      | str z => exact absurd hb (by rw [← Option.some.inj ((show kitB "str" "list" = some false by decide +kernel).symm.trans k3), ← Option.some.inj ((show kitB "str" "tuple" = some false by decide +kernel).symm.trans k4)]; decide)
      | @list n ds hn hds =>
        cases hx with
        | @lst a xs _ hX aX => cases hy with
          | @lst b ys _ hY aY =>
            have lx := dpa_len aX
            have ly := dpa_len aY
            refine s_ret (v := .bl (true && true)) (ev_andV (ev_op (ev_cb (ea_cons (ev_var rfl) ea_nil) (rc_len (.inl hX))) (ev_cb (ea_cons (ev_var rfl) ea_nil) (rc_len (.inl hY))) ?_) fun _ => ev_allT (n := xs.length) ?_) fun H4 e4 => q H4 (ex3.trans e4)
            · rw [lx, ly]
              exact rv_sc rfl
            · rw [← given_all]
              refine el_lcZ _ _ (ea_cons (ev_var rfl) (ea_cons (ev_var rfl) ea_nil)) hX hY (by omega) (by omega) fun i x y Tt Hb eb gx gy hT => ?_
              obtain ⟨d1, g1, p1⟩ := dpa_get aX gx
              obtain ⟨d2, g2, p2⟩ := dpa_get aY gy
              obtain rfl : d1 = d2 := Option.some.inj (g1.symm.trans g2)
              refine ⟨_, tg_two (.inl (.inl hT)) tg_name tg_name, rfl, et_yes, fun _ => ?_⟩
              refine ev_call (ea_cons (ev_var rfl) (ea_cons (ev_var rfl) ea_nil)) ?_
              exact spV_same (hds d1 (List.mem_of_getElem? g1)) (dp_ex eb p1) (dp_ex eb p2)
      | @tuple n ds hn hds =>
        cases hx with
        | @tup a xs _ hX aX => cases hy with
          | @tup b ys _ hY aY =>
            have lx := dpa_len aX
            have ly := dpa_len aY
            refine s_ret (v := .bl (true && true)) (ev_andV (ev_op (ev_cb (ea_cons (ev_var rfl) ea_nil) (rc_len (.inr hX))) (ev_cb (ea_cons (ev_var rfl) ea_nil) (rc_len (.inr hY))) ?_) fun _ => ev_allT (n := xs.length) ?_) fun H4 e4 => q H4 (ex3.trans e4)
            · rw [lx, ly]
              exact rv_sc rfl
            · rw [← given_all]
              refine el_lcZT _ _ (ea_cons (ev_var rfl) (ea_cons (ev_var rfl) ea_nil)) hX hY (by omega) (by omega) fun i x y Tt Hb eb gx gy hT => ?_
              obtain ⟨d1, g1, p1⟩ := dpa_get aX gx
              obtain ⟨d2, g2, p2⟩ := dpa_get aY gy
              obtain rfl : d1 = d2 := Option.some.inj (g1.symm.trans g2)
              refine ⟨_, tg_two (.inl (.inl hT)) tg_name tg_name, rfl, et_yes, fun _ => ?_⟩
              refine ev_call (ea_cons (ev_var rfl) (ea_cons (ev_var rfl) ea_nil)) ?_
              exact spV_same (hds d1 (List.mem_of_getElem? g1)) (dp_ex eb p1) (dp_ex eb p2)
end

end Su
namespace Su
/-! ### for i, x in enumerate(xs) -/
theorem s_forE {K : PySem.W.Frag} {a : Addr} {xs : List V} {g : TG} {tb : TS} {D : Ends} {σ : L2.St} {H : Hp} {ta : TA} (h : EvA ta σ H [.ref a]) (hx : SqL K H a xs) (Pv : Nat → L2.St → Hp → Prop) (h0 : ∀ H1, Ex H H1 → Pv 0 σ H1) (hl : ∀ i σ' H', i ≤ xs.length → Pv i σ' H' → SqL K H' a xs)
    (hs : ∀ i x T σ' Hc, xs[i]? = some x → Pv i σ' Hc → Hc T = none → ∃ σ2, Tgt g (.ref T) σ' σ2 (upd Hc T (.tup [.int (i : Nat), x])) ∧ tb { D with nx := Pv (i + 1), ct := Pv (i + 1), bk := D.nx } σ2 (upd Hc T (.tup [.int (i : Nat), x])))
    (hd : ∀ σ' H', Pv xs.length σ' H' → D.nx σ' H') : tFor (iEnum K ta) g tb D σ H :=
  h H (Ex.refl H) _ fun H1 e1 => ⟨a, xs, rfl, ex_l e1 hx, by
    refine ⟨fun i m σ' H' => m = xs.length - i ∧ i ≤ xs.length ∧ Pv i σ' H', ⟨xs.length, by simp, Nat.zero_le _, h0 H1 e1⟩, ?_⟩
    rintro i m σ' H' ⟨rfl, hi, p⟩
    have hX := hl i σ' H' hi p
    by_cases hlt : i < xs.length
    · refine .inr ⟨⟨xs, xs[i], hX, List.getElem?_eq_getElem hlt⟩, Pv (i + 1), fun σ2 H2 p' => ⟨xs.length - (i + 1), by omega, rfl, hlt, p'⟩, fun y H2 hy => ?_⟩
      obtain ⟨T, x, rfl, nT, rfl, hxx⟩ := hy
      obtain ⟨σ2, h1, h2⟩ := hs i x T σ' H' (hxx xs hX) p nT
      exact h1 _ (Ex.refl _) _ h2
    · have ei : i = xs.length := by omega
      subst ei
      exact .inl ⟨⟨xs, hX, Nat.le_refl _⟩, hd σ' H' p⟩⟩

end Su
namespace Su
/-! ### settling: what a row of nets comes to, step by step -/
def stepT (l : List Int) (i j : Nat) (c : Int) (l' : List Int) : Prop := ∃ x y, l[i]? = some x ∧ l[j]? = some y ∧ x < 0 ∧ 0 < y ∧ (∀ (k : Nat) (z : Int), k < i → l[k]? = some z → 0 ≤ z) ∧ (∀ (k : Nat) (z : Int), k < j → l[k]? = some z → z ≤ 0) ∧ c = (if y < -x then y else -x) ∧ l' = (l.set i (x + c)).set j (y - c)
def doneT (l : List Int) : Prop := (∀ (i : Nat) (z : Int), l[i]? = some z → 0 ≤ z) ∨ (∀ (i : Nat) (z : Int), l[i]? = some z → z ≤ 0)
inductive Tr : List Int → List (Nat × Nat × Int) → Prop
  | done {l} : doneT l → Tr l []
  | step {l i j c l' r} : stepT l i j c l' → Tr l' r → Tr l ((i, j, c) :: r)
theorem step_not_done {l l' : List Int} {i j : Nat} {c : Int} (h : stepT l i j c l') : ¬ doneT l := by
  obtain ⟨x, y, hx, hy, nx, py, _⟩ := h
  rintro (d | d)
  · have := d i x hx
    omega
  · have := d j y hy
    omega
theorem step_det {l l1 l2 : List Int} {i j i' j' : Nat} {c c' : Int} (h : stepT l i j c l1) (h' : stepT l i' j' c' l2) : i = i' ∧ j = j' ∧ c = c' ∧ l1 = l2 := by
  obtain ⟨x, y, hx, hy, nx, py, f1, f2, rfl, rfl⟩ := h
  obtain ⟨x', y', hx', hy', nx', py', f1', f2', rfl, rfl⟩ := h'
  have ei : i = i' := by
    rcases Nat.lt_trichotomy i i' with h | h | h
    · have := f1' i x h hx
      omega
    · exact h
    · have := f1 i' x' h hx'
      omega
  have ej : j = j' := by
    rcases Nat.lt_trichotomy j j' with h | h | h
    · have := f2' j y h hy
      omega
    · exact h
    · have := f2 j' y' h hy'
      omega
  subst ei
  subst ej
  obtain rfl : x = x' := Option.some.inj (hx.symm.trans hx')
  obtain rfl : y = y' := Option.some.inj (hy.symm.trans hy')
  exact ⟨rfl, rfl, rfl, rfl⟩
theorem Tr.det {l : List Int} {r : List (Nat × Nat × Int)} (h : Tr l r) : ∀ {r'}, Tr l r' → r = r' := by
  induction h with
  | done d =>
    intro r' h'
    cases h' with
    | done _ => rfl
    | step s _ => exact absurd d (step_not_done s)
  | step s _ ih =>
    intro r' h'
    cases h' with
    | done d => exact absurd d (step_not_done s)
    | step s' t' =>
      obtain ⟨rfl, rfl, rfl, rfl⟩ := step_det s s'
      rw [ih t']
theorem set_get {l : List Int} {i : Nat} {x : Int} (h : l[i]? = some x) (y : Int) : (l.set i y)[i]? = some y := List.getElem?_set_self (List.getElem?_eq_some_iff.mp h).1
theorem set_get_ne {l : List Int} {i k : Nat} (y : Int) (h : i ≠ k) : (l.set i y)[k]? = l[k]? := List.getElem?_set_ne h
theorem set_sum {l : List Int} {i : Nat} {x : Int} (h : l[i]? = some x) (y : Int) : (l.set i y).sum = l.sum - x + y := sum_set h
/-- a row that comes to nought and has something below has something above -/
theorem pos_of_sum : ∀ {l : List Int}, (∀ (i : Nat) (z : Int), l[i]? = some z → z ≤ 0) → l.sum ≤ 0
  | [], _ => by rw [List.sum_nil]; omega
  | a :: r, h => by
    have h1 := h 0 a rfl
    have h2 := pos_of_sum (l := r) fun i z hz => h (i + 1) z hz
    rw [List.sum_cons]
    omega
theorem some_pos {l : List Int} {i : Nat} {x : Int} (h : l[i]? = some x) (hx : x < 0) (hs : l.sum = 0) : ∃ (j : Nat) (y : Int), l[j]? = some y ∧ 0 < y := by
  by_cases hp : ∃ (j : Nat) (y : Int), l[j]? = some y ∧ 0 < y
  · exact hp
  · have h2 : ∀ (k : Nat) (z : Int), (l.set i 0)[k]? = some z → z ≤ 0 := by
      intro k z hz
      by_cases e : i = k
      · subst e
        rw [set_get h] at hz
        have := Option.some.inj hz
        omega
      · rw [set_get_ne 0 e] at hz
        by_cases hz0 : 0 < z
        · exact absurd ⟨k, z, hz, hz0⟩ hp
        · omega
    have h3 := pos_of_sum h2
    rw [set_sum h] at h3
    omega

end Su
namespace Su
theorem int_at {ns : List Int} {i : Nat} {x : V} (h : (ns.map V.int)[i]? = some x) : ∃ c, x = .int c ∧ ns[i]? = some c := by
  rw [List.getElem?_map] at h
  cases hc : ns[i]? with
  | none => rw [hc] at h; cases h
  | some c => rw [hc] at h; exact ⟨c, (Option.some.inj h).symm, rfl⟩
theorem given_ints' (l : List Int) : given l.length (fun _ => true) (fun i => .int (l.getD i 0)) = l.map V.int := by
  apply List.ext_getElem?
  intro i
  unfold given
  rw [List.filter_eq_self.mpr (fun _ _ => rfl), List.getElem?_map, List.getElem?_map]
  by_cases hi : i < l.length
  · rw [List.getElem?_range hi, List.getElem?_eq_getElem hi]
    show some (V.int (l.getD i 0)) = some (V.int l[i])
    rw [List.getD_eq_getElem?_getD, List.getElem?_eq_getElem hi]
    rfl
  · rw [List.getElem?_eq_none (by rw [List.length_range]; omega), List.getElem?_eq_none (by omega)]
    rfl

end Su
namespace Su
/-! ### more ways of calls -/
theorem s_forE1 {K : PySem.W.Frag} {te : TE} {g : TG} {tb : TS} {D : Ends} {σ : L2.St} {H : Hp} {Pc : Addr → Hp → Prop} (hcall : ∀ Q : VK, (∀ p H1, Pc p H1 → Q (.ref p) H1) → te σ H Q) (k : ∀ p H1, Pc p H1 → tFor (iEnum K (tCons (tC (.ref p)) tNil)) g tb D σ H1) :
    tFor (iEnum K (tCons te tNil)) g tb D σ H := hcall _ fun p H1 h => k p H1 h
theorem s_tryw1 {sp : Sp} {W : WX} {te : TE} {xs : List V} {σ : L2.St} {H : Hp} {i : Nat} {D : Ends} (h : EvL te σ H xs) (hs : ∀ p H1, H p = none → Ex H H1 → H1 p = some (.lst xs) → sp [.ref p] H1 (fun v H2 => D.nx (σ.set i (some v)) H2) (WE W σ)) : tAsg (tCallS sp (WE W) (tCons te tNil)) (gName i) D σ H :=
  h H (Ex.refl H) _ fun p H1 hp e1 h1 => hs p H1 hp e1 h1
theorem rc_isi_lst {K : PySem.W.Frag} {H : Hp} {p : Addr} {xs : List V} {n : String} {b : Bool} (h : H p = some (.lst xs)) (hk : kitB "list" n = some b) : RC (rIsi K) [.ref p, .ty n] H (.bl b) :=
  fun H1 e _ q => ⟨.ref p, .ty n, .type "list", .type n, b, rfl, .ty n, .base (.lst (e _ _ h)), kit_ty hk, q H1 (Ex.refl H1)⟩
theorem int_eq {i j : Int} : decide (V.int i = V.int j) = decide (i = j) := by
  by_cases h : i = j
  · rw [h, decide_eq_true rfl, decide_eq_true rfl]
  · rw [decide_eq_false h, decide_eq_false (fun z => h (V.int.inj z))]
theorem q_callQ {sp : Sp} {dvs vs : List V} {E : XK} {ta : TA} {σ : L2.St} {H : Hp} {i : Nat} {D : Ends} {tz : TS} (h : EvA ta σ H vs) (k : ∀ H1, Ex H H1 → sp (vs ++ dvs) H1 (fun v H2 => tz D (σ.set i (some v)) H2) E) : tSeq (tAsg (tCall sp dvs E ta) (gName i)) tz D σ H :=
  h H (Ex.refl H) _ fun H1 e1 => k H1 e1

end Su
namespace Su
open TL
/-! ### names: texts, each another -/
theorem ev_join {K : PySem.W.Frag} {to te : TE} {σ : L2.St} {H : Hp} {a : Str} {ys : List Str} (h1 : Ev to σ H (.str a)) (h2 : EvL te σ H (ys.map V.str)) (hz : (ys.map (·.length)).sum + ys.length * a.length ≤ 16777216) :
    Ev (tM1 (fun x xs H Q => ∃ a p, ∃ ys : List Str, x = .str a ∧ xs = [.ref p] ∧ (SqL K H p (ys.map V.str) ∨ SqT K H p (ys.map V.str)) ∧ (ys.map (·.length)).sum + ys.length * a.length ≤ 16777216 ∧ Q (.str (Txt.join a ys)) H) to te) σ H (.str (Txt.join a ys)) := fun H1 e Q q =>
  h1 H1 e _ fun H2 e2 => ⟨⟨a, rfl⟩, h2 H2 (e.trans e2) _ fun p H3 _ e3 h3 => ⟨a, p, ys, rfl, rfl, .inl (sq_of h3), hz, q H3 (e2.trans e3)⟩⟩
theorem ev_addS {ta tb : TE} {σ : L2.St} {H : Hp} {x y : Str} (h1 : Ev ta σ H (.str x)) (h2 : Ev tb σ H (.str y)) (hz : x.length + y.length ≤ 100000) :
    Ev (tOp (fun x y H Q => ∃ i j, x = .str i ∧ y = .str j ∧ i.length + j.length ≤ sizeLine ∧ Q (.str (i ++ j)) H) ta tb) σ H (.str (x ++ y)) := ev_op h1 h2 fun H1 e Q q => ⟨x, y, rfl, rfl, sz_of hz, q H1 (Ex.refl H1)⟩
theorem ev_slS {te : TE} {tl' th : TO} {σ : L2.St} {H : Hp} {z : Str} {lo hi : Option Int} (h : Ev te σ H (.str z)) (h1 : EvO tl' σ H lo) (h2 : EvO th σ H hi) (hz : z.length ≤ 100000) : Ev (tSl rSlS te tl' th) σ H (.str (cutS z lo hi)) := fun H1 e Q q =>
  h H1 e _ fun H2 e2 => h1 H2 (e.trans e2) _ fun H3 e3 => h2 H3 ((e.trans e2).trans e3) _ fun H4 e4 => ⟨z, rfl, sz_of hz, q H4 ((e2.trans e3).trans e4)⟩
theorem tl_cutTo {z : Str} {p : Nat} : tl (cutS z none (some (p : Int))) = (tl z).take p := by
  unfold cutS
  rw [tl_mk, HT.sIx_none, HT.sIx_nat, List.drop_zero, Nat.sub_zero]
  by_cases h : p ≤ z.length
  · rw [Nat.min_eq_left h]
  · rw [Nat.min_eq_right (by omega), List.take_of_length_le (by rw [len_tl]; exact Nat.le_refl _), List.take_of_length_le (by rw [len_tl] at h; omega)]
theorem tl_cutFrom {z : Str} {p : Nat} : tl (cutS z (some (p : Int)) none) = (tl z).drop p := by
  unfold cutS
  rw [tl_mk, HT.sIx_none, HT.sIx_nat]
  by_cases h : p ≤ z.length
  · rw [Nat.min_eq_left h, List.take_of_length_le (by rw [List.length_drop, ← len_tl]; exact Nat.le_refl _)]
  · rw [Nat.min_eq_right (by omega), Nat.sub_self, List.take_zero, List.drop_of_length_le (by rw [len_tl] at h; omega)]
theorem join_ones {α : Type} (f : α → Nat) : ∀ l : List α, joinL [] (l.map fun x => [f x]) = l.map f
  | [] => rfl
  | [a] => rfl
  | a :: b :: r => by
    show [f a] ++ ([] ++ joinL [] ((b :: r).map fun x => [f x])) = _
    rw [join_ones f (b :: r)]
    rfl
theorem inV_str {z : Str} {ws : List Str} : inV (.str z) (ws.map V.str) = decide (z ∈ ws) := by
  unfold inV
  induction ws with
  | nil => rfl
  | cons a r ih =>
    rw [List.map_cons, List.any_cons, ih]
    show ((a == z) || decide (z ∈ r)) = _
    by_cases h : z = a
    · subst h
      simp
    · rw [beq_eq_false_iff_ne.mpr (fun e => h e.symm)]
      simp [h]
theorem flat_strs {ws : List Str} : (ws.map V.str).all flatV = true := by
  rw [List.all_eq_true]
  intro x hx
  obtain ⟨z, _, rfl⟩ := List.mem_map.mp hx
  rfl
/-- unlike ones within a list are no more than its items -/
theorem nodup_le {α : Type} [DecidableEq α] : ∀ {l m : List α}, l.Nodup → (∀ x ∈ l, x ∈ m) → l.length ≤ m.length
  | [], _, _, _ => Nat.zero_le _
  | a :: r, m, h, hs => by
    have h1 := List.nodup_cons.mp h
    have ha := hs a List.mem_cons_self
    have ih := nodup_le (l := r) (m := m.erase a) h1.2 fun x hx => (List.mem_erase_of_ne (fun e : x = a => h1.1 (by rw [← e]; exact hx))).mpr (hs x (List.mem_cons_of_mem _ hx))
    have hp : 0 < m.length := List.length_pos_of_mem ha
    rw [List.length_erase_of_mem ha] at ih
    rw [List.length_cons]
    omega
def lettersS : Str := Str.ofString "abcdefghijklmnopqrstuvwxyz"
theorem letters_at {i : Int} (h0 : 0 ≤ i) (h : i < 26) : atI lettersS.cps.toList i = some (97 + i.toNat) := by
  obtain ⟨n, rfl⟩ : ∃ n : Nat, i = (n : Int) := ⟨i.toNat, by omega⟩
  have hn : n < 26 := by omega
  have e : lettersS.cps.toList = (List.range 26).map fun k => 97 + k := by decide +kernel
  rw [e]
  refine atI_nat ?_
  rw [List.getElem?_map, List.getElem?_range hn]
  rfl
theorem ev_letter {ta tb : TE} {σ : L2.St} {H : Hp} {i : Int} (ha : Ev ta σ H (.str lettersS)) (hb : Ev tb σ H (.int i)) (h0 : 0 ≤ i) (h : i < 26) : Ev (tOp rIxS ta tb) σ H (.str ⟨#[97 + i.toNat]⟩) := ev_op ha hb (rv_ixS (by decide +kernel) (letters_at h0 h))
/-- the word with another letter at a place -/
def varW (w : List Nat) (p : Nat) (raw : Int) (j : Nat) : List Nat := w.set p (97 + ((raw + (j : Int)) % 26).toNat)
theorem var_ne {w : List Nat} {p : Nat} {raw : Int} (hp : p < w.length) {i j : Nat} (hi : i < 26) (hj : j < 26) (h : varW w p raw i = varW w p raw j) : i = j := by
  have e := congrArg (fun l : List Nat => l[p]?) h
  simp only [varW] at e
  rw [List.getElem?_set_self hp, List.getElem?_set_self hp] at e
  have e2 := Option.some.inj e
  have a1 := Int.emod_nonneg (raw + (i : Int)) (show (26 : Int) ≠ 0 by decide)
  have a2 := Int.emod_nonneg (raw + (j : Int)) (show (26 : Int) ≠ 0 by decide)
  omega
theorem var_all {w : List Nat} {p : Nat} {raw : Int} {ws : List Str} (hp : p < w.length) (hw : ws.length ≤ 22) (h : ∀ j, j < 25 → (⟨(varW w p raw j).toArray⟩ : Str) ∈ ws) : False := by
  have nd : ((List.range 25).map fun j => (⟨(varW w p raw j).toArray⟩ : Str)).Nodup := by
    refine List.nodup_iff_pairwise_ne.mpr ?_
    rw [List.pairwise_map]
    refine List.Pairwise.imp_of_mem ?_ (List.nodup_iff_pairwise_ne.mp List.nodup_range)
    intro i j hi hj hne e
    have e2 := congrArg tl e
    rw [tl_mk, tl_mk] at e2
    exact hne (var_ne hp (by have := List.mem_range.mp hi; omega) (by have := List.mem_range.mp hj; omega) e2)
  have := nodup_le nd (m := ws) fun x hx => by
    obtain ⟨j, hj, rfl⟩ := List.mem_map.mp hx
    exact h j (List.mem_range.mp hj)
  rw [List.length_map, List.length_range] at this
  omega
def NameOk (z : Str) : Prop := 1 ≤ (tl z).length ∧ (tl z).length ≤ 12 ∧ ∀ c ∈ tl z, 97 ≤ c ∧ c < 123
theorem NameOk.ok {z : Str} (h : NameOk z) : PyData.strOk z = true := by
  unfold PyData.strOk
  rw [Array.all_eq_true']
  intro c hc
  exact decide_eq_true (Nat.lt_trans (h.2.2 c (Array.mem_toList_iff.mpr hc)).2 (by decide))
section
variable {P : Program} {w : World} {K : PySem.W.Frag} {mg : Str → Option Value} {base : Heap}
def spNames (K : PySem.W.Frag) : Sp := fun vs H Q _ => ∃ (a : Addr) (rows : List Int) (n : Nat), vs = [.ref a, .int (n : Int)] ∧ SqL K H a (rows.map V.int) ∧ n ≤ rows.length ∧ n ≤ 22 ∧ (∀ x ∈ rows, -(10 ^ 18) < x ∧ x < 10 ^ 18) ∧
  ∀ (ws : List Str) H' p, H p = none → Ex H H' → H' p = some (.lst (ws.map V.str)) → ws.length = n → ws.Nodup → (∀ z ∈ ws, NameOk z) → Q (.ref p) H'
def WordI (w0 : List Nat) (pl : Nat) (raw : Int) (ws : List Str) (i : Nat) (z : Str) : Prop := (tl z).length = w0.length ∧ (∀ c ∈ tl z, 97 ≤ c ∧ c < 123) ∧ (z ∉ ws ∨ ((∀ j, j + 1 < i → (⟨(varW w0 pl raw j).toArray⟩ : Str) ∈ ws) ∧ (∀ j, i = j + 1 → tl z = varW w0 pl raw j) ∧ (i = 0 → tl z = w0)))
theorem word_step {w0 : List Nat} {pl : Nat} {raw : Int} {ws : List Str} {i : Nat} {z z' : Str} (h : WordI w0 pl raw ws i z) (hz : z ∈ ws) (hz' : tl z' = varW (tl z) pl raw i) : WordI w0 pl raw ws (i + 1) z' := by
  obtain ⟨hl, hc, h⟩ := h
  refine ⟨by rw [hz']; unfold varW; rw [List.length_set, hl], fun c hc' => ?_, .inr ?_⟩
  · rw [hz'] at hc'
    unfold varW at hc'
    rcases List.mem_or_eq_of_mem_set hc' with h' | h'
    · exact hc c h'
    · have := Int.emod_lt_of_pos (raw + (i : Int)) (show (0 : Int) < 26 by decide)
      omega
  rcases h with h | ⟨h1, h2, h3⟩
  · exact absurd hz h
  have hv : varW (tl z) pl raw i = varW w0 pl raw i := by
    cases i with
    | zero => rw [h3 rfl]
    | succ j =>
      rw [h2 j rfl]
      unfold varW
      rw [List.set_set]
  refine ⟨fun j hj => ?_, fun j hj => ?_, fun hj => by omega⟩
  · by_cases e : j + 1 < i
    · exact h1 j e
    · have ei : i = j + 1 := by omega
      have := h2 j ei
      rw [← this]
      exact hz
  · obtain rfl : i = j := by omega
    rw [hz', hv]
theorem word_stay {w0 : List Nat} {pl : Nat} {raw : Int} {ws : List Str} {i : Nat} {z : Str} (h : WordI w0 pl raw ws i z) (hz : z ∉ ws) : WordI w0 pl raw ws (i + 1) z := ⟨h.1, h.2.1, .inl hz⟩
theorem ok__law_names {f : Addr} {fd : FuncData} {k : Nat} (F : Fun K "_law_names" "_law_names" s__law_names f fd) (T : Top K mg) : FnOk P w K mg base CX0 (k + 1) f fd ["_law_some", "_law_many"] (spNames K) := by
  have nd := sc__law_names.nd
  refine F.ok sc__law_names (fun vs H Q E h => ?_) (fun cdv A outer s H vs Q E hr h => ?_)
  · obtain ⟨a, rows, n, rfl, _⟩ := h
    rfl
  · obtain ⟨a, rows, n, rfl, hS, hlen, n2, hbd, q⟩ := h
    refine ⟨_, (pss_cons (ps_set (i := 2) nd rfl (.inr rfl) pe_str)
      (pss_cons (ps_set (i := 3) nd rfl (.inl rfl) (pe_lst pa_nil))
      (pss_cons (ps_for PassesOwn.never rfl (pi_range1 rfl T.m_range (pa_cons (pv 1) pa_nil)) (pg_name (i := 4) nd rfl (.inl rfl))
        (pss_cons (ps_set (i := 5) nd rfl (.inr rfl) (pe_ix ix_list (pv 0) (pv 4) (fun _ _ => rfl)))
          (pss_cons (ps_set (i := 6) nd rfl (.inl rfl) (pe_op op_add pe_int (pe_op op_mod (pv 5) pe_int)))
          (pss_cons (ps_set (i := 7) nd rfl (.inr rfl) (pe_op op_mod (pe_op op_fdiv (pv 5) pe_int) pe_int))
          (pss_cons (ps_set (i := 8) nd rfl (.inl rfl) (pe_join pe_str (pe_lc (own := [("_law_k", 12)]) (g := gName 12) (tt := tYes) rfl nd (pi_range1 rfl T.m_range (pa_cons (pv 6) pa_nil)) (blkOk_by (own := [("_law_k", 12)]) (N := Su.N__law_names) (sc := defScope s__law_names) (by decide +kernel)) (fun _ _ _ _ _ => (pg_name (i := 12) nd rfl (.inl rfl))) (fun _ _ _ _ _ => pts_nil) (fun _ _ _ _ _ => (pe_ix ix_str (pv 2) (pe_op op_mod (pe_op op_add (pe_op op_fdiv (pv 5) pe_int) (pe_op op_mul (pv 12) (pv 7))) pe_int) (fun _ _ => rfl))))))
          (pss_cons (ps_set (i := 9) nd rfl (.inl rfl) (pe_op op_mod (pe_op op_fdiv (pv 5) pe_int) (pv 6)))
          (pss_cons (ps_for PassesOwn.never rfl (pi_range1 rfl T.m_range (pa_cons pe_int pa_nil)) (pg_name (i := 10) nd rfl (.inl rfl))
            (pss_one (ps_if (pt_cmpR op_in_seq (pv 8) (pv 3) rfl)
                (pss_cons (ps_set (i := 11) nd rfl (.inl rfl) (pe_ix ix_str (pv 2) (pe_op op_mod (pe_op op_add (pv 5) (pv 10)) pe_int) (fun _ _ => rfl)))
                  (pss_one (ps_set (i := 8) nd rfl (.inl rfl) (pe_op op_add_str (pe_op op_add_str (pe_slice sl_str (pv 8) po_none (po_some (pv 9))) (pv 11)) (pe_slice sl_str (pv 8) (po_some (pe_op op_add (pv 9) pe_int)) po_none)))))
                pss_nil)))
          (pss_one (ps_expr (pe_bm PySem.F.plainAttrs_list PySem.F.slot_list_append PySem.F.type_list_append mt_append (pv 3) (pa_cons (pv 8) pa_nil)))))))))))
      (pss_one (ps_ret (pv 3)))))), ?_⟩
    refine q_asg (v := .str lettersS) ev_c fun H1 e1 => ?_
    refine q_asgL (el_lst ea_nil (by decide)) fun p H2 hp e2 h2 => ?_
    refine q_forR1 (by walk_at "ea") (by omega) (fun i σ' H' => ∃ (ws : List Str) (y4 y5 y6 y7 y8 y9 y10 y11 y12 : Option V), σ' = [some (.ref a), some (.int (n : Int)), some (.str lettersS), some (.ref p), y4, y5, y6, y7, y8, y9, y10, y11, y12] ∧ Ex H H' ∧ H' p = some (.lst (ws.map V.str)) ∧
      ws.length = i ∧ ws.Nodup ∧ ∀ z ∈ ws, NameOk z) ?_ ?_ ?_
    · intro H3 e3
      exact ⟨[], none, none, none, none, none, none, none, none, none, rfl, (e1.trans e2).trans e3, e3 p _ h2, rfl, List.nodup_nil, fun z hz => absurd hz List.not_mem_nil⟩
    · rintro i σ' H' hi ⟨ws, y4, y5, y6, y7, y8, y9, y10, y11, y12, rfl, ex, hp', hl, hnd, hok⟩
      have hs := ex_l ex hS
      refine q_asg (by walk_at "ev") fun H3 e3 => ?_
      have hs := ex_l e3 hs
      obtain ⟨raw, hraw, r1, r2⟩ : ∃ raw, rows.getD (i : Int).toNat 0 = raw ∧ -(10 ^ 18) < raw ∧ raw < 10 ^ 18 := ⟨_, rfl, (by
        rw [List.getD_eq_getElem?_getD, List.getElem?_eq_getElem (show (i : Int).toNat < rows.length by omega)]
        exact (hbd _ (List.getElem_mem _)).1), (by
        rw [List.getD_eq_getElem?_getD, List.getElem?_eq_getElem (show (i : Int).toNat < rows.length by omega)]
        exact (hbd _ (List.getElem_mem _)).2)⟩
      rw [hraw]
      clear hraw
      refine q_asg (by walk_at "ev") fun H4 e4 => ?_
      obtain ⟨size, hsz⟩ : ∃ size : Nat, 1 + raw % 12 = (size : Int) := ⟨(1 + raw % 12).toNat, by omega⟩
      have hs1 : 1 ≤ size ∧ size ≤ 12 := by omega
      rw [hsz]
      clear hsz
      refine q_asg (by walk_at "ev") fun H5 e5 => ?_
      -- word
      refine q_asg (ev_join (a := Str.ofString "") (ys := (List.range size).map fun k : Nat => (⟨#[97 + ((raw / 13 + (k : Int) * (raw / 5 % 4)) % 26).toNat]⟩ : Str)) ev_c ?_ ?_) fun H6 e6 => ?_
      · have hg : ((List.range size).map fun k : Nat => (⟨#[97 + ((raw / 13 + (k : Int) * (raw / 5 % 4)) % 26).toNat]⟩ : Str)).map V.str = given ((size : Int)).toNat (fun _ => true) fun k => .str ⟨#[97 + ((raw / 13 + (k : Int) * (raw / 5 % 4)) % 26).toNat]⟩ := by
          unfold given
          rw [List.filter_eq_self.mpr (fun _ _ => rfl), List.map_map, Int.toNat_natCast]
          rfl
        rw [hg]
        refine el_lcR1 (n := (size : Int)) _ _ (by walk_at "ea") (by omega) (fun _ => rfl) (fun _ _ _ _ => et_yes) fun k H6 e6 hk _ => ?_
        have g1 := Int.emod_nonneg (raw / 13 + (k : Int) * (raw / 5 % 4)) (show (26 : Int) ≠ 0 by decide)
        have g2 := Int.emod_lt_of_pos (raw / 13 + (k : Int) * (raw / 5 % 4)) (show (0 : Int) < 26 by decide)
        refine ev_letter (i := (raw / 13 + (k : Int) * (raw / 5 % 4)) % 26) (ev_var rfl) (by walk_at "ev") g1 g2
      · have hsum : ((((List.range size).map fun k : Nat => (⟨#[97 + ((raw / 13 + (k : Int) * (raw / 5 % 4)) % 26).toNat]⟩ : Str)).map (·.length)).sum) = size := by
          rw [List.map_map]
          have : ((fun z : Str => z.length) ∘ fun k : Nat => (⟨#[97 + ((raw / 13 + (k : Int) * (raw / 5 % 4)) % 26).toNat]⟩ : Str)) = fun _ => 1 := rfl
          rw [this, List.map_const', List.length_range, List.sum_replicate_nat, Nat.mul_one]
        rw [hsum, List.length_map, List.length_range]
        have : (Str.ofString "").length = 0 := by decide +kernel
        rw [this]
        omega
      have hwe : tl (Txt.join (Str.ofString "") ((List.range size).map fun k : Nat => (⟨#[97 + ((raw / 13 + (k : Int) * (raw / 5 % 4)) % 26).toNat]⟩ : Str))) = (List.range size).map fun k : Nat => 97 + ((raw / 13 + (k : Int) * (raw / 5 % 4)) % 26).toNat := by
        rw [join_eq]
        have h0 := tl_join (Str.ofString "") ((List.range size).map fun k : Nat => (⟨#[97 + ((raw / 13 + (k : Int) * (raw / 5 % 4)) % 26).toNat]⟩ : Str))
        have h1 : tl (Str.ofString "") = [] := by decide +kernel
        rw [h1, List.map_map] at h0
        have h2 : (tl ∘ fun k : Nat => (⟨#[97 + ((raw / 13 + (k : Int) * (raw / 5 % 4)) % 26).toNat]⟩ : Str)) = fun k : Nat => [97 + ((raw / 13 + (k : Int) * (raw / 5 % 4)) % 26).toNat] := rfl
        rw [h2, join_ones] at h0
        exact h0
      have hwl : (tl (Txt.join (Str.ofString "") ((List.range size).map fun k : Nat => (⟨#[97 + ((raw / 13 + (k : Int) * (raw / 5 % 4)) % 26).toNat]⟩ : Str)))).length = size := by rw [hwe, List.length_map, List.length_range]
      have hwc : ∀ c ∈ tl (Txt.join (Str.ofString "") ((List.range size).map fun k : Nat => (⟨#[97 + ((raw / 13 + (k : Int) * (raw / 5 % 4)) % 26).toNat]⟩ : Str))), 97 ≤ c ∧ c < 123 := fun c hc => by
        rw [hwe] at hc
        obtain ⟨k, _, rfl⟩ := List.mem_map.mp hc
        have := Int.emod_lt_of_pos (raw / 13 + (k : Int) * (raw / 5 % 4)) (show (0 : Int) < 26 by decide)
        omega
      clear hwe
      generalize Txt.join (Str.ofString "") ((List.range size).map fun k : Nat => (⟨#[97 + ((raw / 13 + (k : Int) * (raw / 5 % 4)) % 26).toNat]⟩ : Str)) = z0 at hwl hwc ⊢
      refine q_asg (by walk_at "ev") fun H7 e7 => ?_
      have p1 := Int.emod_nonneg (raw / 7) (show (size : Int) ≠ 0 by omega)
      have p2 := Int.emod_lt_of_pos (raw / 7) (show 0 < (size : Int) by omega)
      obtain ⟨pl, hpl⟩ : ∃ pl : Nat, raw / 7 % (size : Int) = (pl : Int) := ⟨(raw / 7 % (size : Int)).toNat, by omega⟩
      have hpl2 : pl < size := by omega
      rw [hpl]
      clear hpl
      have ex7 := (((((ex.trans e3).trans e4).trans e5).trans e6).trans e7)
      have hp7 := ex_g ((((e3.trans e4).trans e5).trans e6).trans e7) hp'
      refine q_forR1 (n := 26) (by walk_at "ea") (by omega) (fun j σ' H' => ∃ (z : Str) (y10 y11 : Option V), σ' = [some (.ref a), some (.int (n : Int)), some (.str lettersS), some (.ref p), some (.int (i : Int)), some (.int raw), some (.int (size : Int)), some (.int (raw / 5 % 4)), some (.str z), some (.int (pl : Int)), y10, y11, y12] ∧ Ex H7 H' ∧ WordI (tl z0) pl raw ws j z) ?_ ?_ ?_
      · intro H8 e8
        exact ⟨z0, y10, y11, rfl, e8, rfl, hwc, .inr ⟨fun j hj => by omega, fun j hj => by omega, fun _ => rfl⟩⟩
      · rintro j σ' H8 hj ⟨z, y10, y11, rfl, e8, hW⟩
        have hzl : z.length = size := by rw [len_tl, hW.1, hwl]
        have hp8 := ex_g e8 hp7
        refine s_when (et_test (ev_op (ev_var rfl) (ev_var rfl) (rv_isL (sq_of hp8) rfl flat_strs))) (fun hb H9 e9 => ?_) (fun hb H9 e9 => ?_)
        · rw [inV_str] at hb
          have hin := of_decide_eq_true hb
          have g1 := Int.emod_nonneg (raw + (j : Int)) (show (26 : Int) ≠ 0 by decide)
          have g2 := Int.emod_lt_of_pos (raw + (j : Int)) (show (0 : Int) < 26 by decide)
          refine q_asg (ev_letter (i := (raw + (j : Int)) % 26) (ev_var rfl) (by walk_at "ev") g1 g2) fun H10 e10 => ?_
          refine s_asg (ev_addS (ev_addS (ev_slS (lo := none) (hi := some (pl : Int)) (ev_var rfl) eo_none (eo_some (by walk_at "ev")) (by omega)) (ev_var rfl) ?_) (ev_slS (lo := some ((pl : Int) + 1)) (hi := none) (ev_var rfl) (eo_some (by walk_at "ev")) eo_none (by omega)) ?_) fun H11 e11 => ?_
          · have := cutS_length z none (some (pl : Int))
            show _ + 1 ≤ 100000
            omega
          · have h1 := cutS_length z none (some (pl : Int))
            have h2 := cutS_length z (some ((pl : Int) + 1)) none
            have h3 : (cutS z none (some (pl : Int)) ++ (⟨#[97 + ((raw + (j : Int)) % 26).toNat]⟩ : Str)).length = (cutS z none (some (pl : Int))).length + 1 := by
              rw [len_tl, tl_append, List.length_append, ← len_tl]
              rfl
            rw [h3]
            omega
          refine ⟨_, _, _, rfl, (e8.trans e9).trans (e10.trans e11), word_step hW hin ?_⟩
          rw [tl_append, tl_append, tl_cutTo, show ((pl : Int) + 1) = ((pl + 1 : Nat) : Int) by omega, tl_cutFrom]
          unfold varW
          rw [List.set_eq_take_append_cons_drop, if_pos (by rw [← len_tl]; omega), List.append_assoc]
          rfl
        · rw [inV_str] at hb
          exact ⟨_, _, _, rfl, e8.trans e9, word_stay hW (of_decide_eq_false hb)⟩
      · rintro σ' H8 ⟨z, y10, y11, rfl, e8, hW⟩
        dsimp only
        refine s_app (ex_g e8 hp7) (by walk_at "ev") (by walk_at "ev") (by rw [List.length_map]; omega) fun H9 e9 => ?_
        have hzn : z ∉ ws := by
          rcases hW.2.2 with h | ⟨h1, _, _⟩
          · exact h
          · exact (var_all (w := tl z0) (p := pl) (raw := raw) (ws := ws) (by omega) (by omega) fun j hj => h1 j (by omega)).elim
        refine ⟨ws ++ [z], _, _, _, _, _, _, _, _, _, rfl, ex_up ((ex7.trans e8).trans e9) (fresh_back e1 hp), by rw [upd_same, List.map_append]; rfl, by rw [List.length_append, hl]; rfl, ?_, ?_⟩
        · refine List.nodup_append.mpr ⟨hnd, List.nodup_cons.mpr ⟨List.not_mem_nil, List.nodup_nil⟩, ?_⟩
          intro x hx y hy e
          obtain rfl := List.mem_singleton.mp hy
          exact hzn (e ▸ hx)
        · intro x hx
          rcases List.mem_append.mp hx with h | h
          · exact hok x h
          · obtain rfl := List.mem_singleton.mp h
            unfold NameOk
            rw [hW.1, hwl]
            exact ⟨hs1.1, hs1.2, hW.2.1⟩
    · rintro σ' H' ⟨ws, y4, y5, y6, y7, y8, y9, y10, y11, y12, rfl, ex, hp', hl, hnd, hok⟩
      refine s_ret (by walk_at "ev") fun H3 e3 => ?_
      exact q ws H3 p (fresh_back e1 hp) (ex.trans e3) (ex_g e3 hp') (by omega) hnd hok
end

end Su
namespace Su
/-! ### own exceptions: X(), except .. as e, isinstance(e, ..) -/
section
variable {X : Cx} {C : Addr} {bmB : List Value} {B newId initId : String}
theorem pmk_own0 {x : Str} {p pos : Pos} (F : ExcBaseFacts B newId initId bmB) (q : PySem.W.excIn X.K C bmB newId = true) (gC : X.mg x = some (.ref C)) (kC : PySem.W.keepIn X.K (.ref C) = true) (r : Raises X (.ref C)) (hg : Gl X x)
    (hdb : (x == ("__debug__" : Str)) = false := by decide) : PMk X (.Call (.Name x p) [] [] pos) (fun _ H Q => Q (.ref C) none H) := by
  intro pins s σ H Q I h
  refine wpAny_Call_Name_kw (ld_glob I hg gC ?_ hdb)
  refine PySem.W.callWith_K0 I.kIn kC ?_
  obtain ⟨bm, N, nm, qn, bs, hdct, sn, sub, ab, col, dd, k0, k1, k2, k3, k5, mN, hC, hN, hni, T⟩ := exc_obj I.kIn q
  refine wpAny_call_exc_subT F T hC hN hni (fun h' e hm => ?_) (Nat.zero_le _)
  exact mk_of I hm r h (I.hok.gone hm.new)
theorem pss_ex {ι : Type} {Pi : ι → Prop} {st : List Stmt} {t : ι → TS} (h : ∀ i, Pi i → PSs X st (t i)) : PSs X st (fun D σ H => ∃ i, Pi i ∧ t i D σ H) := ⟨fun pins s σ H D I ⟨i, hp, ht⟩ => (h i hp).run pins s σ H D I ht⟩
end
theorem rc_isE {K : PySem.W.Frag} {D a C : Addr} {H : Hp} {b : Bool} (h : PySem.W.kitOne K (.ref D) (.ref C) = some b) : RC (rIsE K D a) [.ref a, .ref C] H (.bl b) := fun H1 _ _ q => ⟨.ref C, .ref C, b, rfl, fun _ r => r, h, q H1 (Ex.refl H1)⟩
theorem rc_isEt {K : PySem.W.Frag} {D a : Addr} {n : String} {H : Hp} {b : Bool} (h : PySem.W.kitOne K (.ref D) (.type n) = some b) : RC (rIsE K D a) [.ref a, .ty n] H (.bl b) := fun H1 _ _ q => ⟨.ty n, .type n, b, rfl, fun _ r => r, h, q H1 (Ex.refl H1)⟩
def boolD (bs : List Bool) : PyData := .list (bs.map .bool)
theorem dp_bools {K : PySem.W.Frag} {H : Hp} {l : Addr} {bs : List Bool} (hl : SqL K H l (bs.map V.bl)) : Dp K H (.ref l) (boolD bs) := .lst hl (dpa_of V.bl PyData.bool bs fun i _ => .bl i)
theorem rv_eqDD {K : PySem.W.Frag} {H : Hp} {x y : V} {d e : PyData} {b : Bool} (h1 : Dp K H x d) (h2 : Dp K H y e) (hs : SeqAt.shaped d = true) (hs2 : SeqAt.shaped e = true) (hb : PyData.eqv d e = b) : RV (rEqD K) x y H (.bl b) := fun H1 ex Q q =>
  ⟨d, e, dp_ex ex h1, dp_ex ex h2, hs, hs2, by rw [hb]; exact q H1 (Ex.refl H1)⟩
theorem rv_neDD {K : PySem.W.Frag} {H : Hp} {x y : V} {d e : PyData} {b : Bool} (h1 : Dp K H x d) (h2 : Dp K H y e) (hs : SeqAt.shaped d = true) (hs2 : SeqAt.shaped e = true) (hb : PyData.eqv d e = !b) : RV (rNeD K) x y H (.bl b) := fun H1 ex Q q =>
  ⟨d, e, dp_ex ex h1, dp_ex ex h2, hs, hs2, by rw [hb, Bool.not_not]; exact q H1 (Ex.refl H1)⟩

end Su
namespace Su
/-! ### instances: their attributes by place -/
theorem zip_lookup : ∀ {ns : List Str} {vs : List V} {i : Nat} {f : Str} {v : V}, ns.Nodup → ns[i]? = some f → vs[i]? = some v → (ns.zip vs).lookup f = some v
  | [], _, i, f, v, _, h, _ => by simp at h
  | _ :: _, [], i, f, v, _, _, h => by simp at h
  | n :: ns, w :: vs, 0, f, v, _, h1, h2 => by
    obtain rfl : n = f := Option.some.inj h1
    obtain rfl : w = v := Option.some.inj h2
    show List.lookup n ((n, w) :: ns.zip vs) = _
    simp [List.lookup]
  | n :: ns, w :: vs, i + 1, f, v, hn, h1, h2 => by
    obtain ⟨n1, n2⟩ := List.nodup_cons.mp hn
    have hne : (f == n) = false := beq_eq_false_iff_ne.mpr fun z => n1 (by rw [← z]; exact List.mem_of_getElem? h1)
    show List.lookup f ((n, w) :: ns.zip vs) = _
    simp only [List.lookup, hne]
    exact zip_lookup n2 h1 h2
theorem zip_none : ∀ {ns : List Str} {vs : List V} {f : Str}, f ∉ ns → (ns.zip vs).lookup f = none
  | [], _, f, _ => rfl
  | _ :: _, [], f, _ => rfl
  | n :: ns, w :: vs, f, h => by
    have hne : (f == n) = false := beq_eq_false_iff_ne.mpr fun z => h (by rw [z]; exact List.mem_cons_self)
    show List.lookup f ((n, w) :: ns.zip vs) = _
    simp only [List.lookup, hne]
    exact zip_none fun z => h (List.mem_cons_of_mem _ z)
theorem zip_put : ∀ {ns : List Str} {vs : List V} {i : Nat} {f : Str} {v : V}, ns.Nodup → ns[i]? = some f → i < vs.length → putF f v (ns.zip vs) = ns.zip (vs.set i v)
  | [], _, i, f, v, _, h, _ => by simp at h
  | _ :: _, [], i, f, v, _, _, h => by simp at h
  | n :: ns, w :: vs, 0, f, v, _, h1, h2 => by
    obtain rfl : n = f := Option.some.inj h1
    show (if n = n then (n, v) :: ns.zip vs else _) = _
    rw [if_pos rfl]
    rfl
  | n :: ns, w :: vs, i + 1, f, v, hn, h1, h2 => by
    obtain ⟨n1, n2⟩ := List.nodup_cons.mp hn
    show (if n = f then (n, v) :: ns.zip vs else (n, w) :: putF f v (ns.zip vs)) = _
    rw [if_neg fun z => n1 (by rw [z]; exact List.mem_of_getElem? h1), zip_put n2 h1 (by rw [List.length_cons] at h2; omega)]
    rfl
theorem zip_snoc : ∀ {ns : List Str} {vs : List V} {f : Str} {v : V}, f ∉ ns → ns.length = vs.length → putF f v (ns.zip vs) = (ns ++ [f]).zip (vs ++ [v])
  | [], [], f, v, _, _ => rfl
  | [], _ :: _, _, _, _, h => by cases h
  | _ :: _, [], _, _, _, h => by cases h
  | n :: ns, w :: vs, f, v, h1, h2 => by
    show (if n = f then (n, v) :: ns.zip vs else (n, w) :: putF f v (ns.zip vs)) = _
    rw [if_neg fun z => h1 (by rw [z]; exact List.mem_cons_self), zip_snoc (fun z => h1 (List.mem_cons_of_mem _ z)) (by rw [List.length_cons, List.length_cons] at h2; omega)]
    rfl
section
variable {X : Cx} {K : PySem.W.Frag}
theorem pe_fldK {e : Expr} {f : Str} {pos : Pos} {ta : TE} (h : X.K = K) (he : PE X e ta) (hb : attributeBase e f X.env (eval e X.env) = eval e X.env) : PE X (.Attribute e f pos) (tFld K ta f) := h ▸ pe_fld he hb
theorem ps_fldK {o value : Expr} {f : Str} {pos pos' : Pos} {ta tv : TE} (h : X.K = K) (ha : PE X o ta) (hv : PE X value tv) (hs : swapsWith value (some (.Attribute o f pos')) pos.line X.env = pure false) : PS X (.Assign [.Attribute o f pos'] value pos) (sFld K ta tv f) := h ▸ ps_fld ha hv hs
theorem ps_fldaugK {o value : Expr} {f : Str} {pos tpos : Pos} {ta tv : TE} {op : Operator} {rd : V → V → Hp → VK → Prop} (h : X.K = K) (ha : PE X o ta) (hv : PE X value tv) (hop : InOp X op rd) : PS X (.AugAssign (.Attribute o f tpos) op value pos) (sFldAug K ta tv rd f) := h ▸ ps_fldaug ha hv hop
end
section
variable {K : PySem.W.Frag} {σ : L2.St} {H : Hp} {a C dx : Addr} {fs : List (Str × V)} {ta tv : TE} {t : TA} {f m : Str} {sp : Sp} {dvs vs xs : List V} {E : XK} {v z : V} {D : Ends} {tz : TS}
theorem ev_fld (h : Ev ta σ H (.ref a)) (ha : H a = some (.ins C dx fs)) (c : Cls K C) (n : NoAttr K C f) (hv : fs.lookup f = some v) : Ev (tFld K ta f) σ H v := fun H1 e Q q =>
  h H1 e _ fun H2 e2 => ⟨a, C, dx, fs, v, rfl, (e.trans e2) _ _ ha, c, n, hv, q H2 e2⟩
theorem s_fld (hv : Ev tv σ H v) (h : Ev ta σ H (.ref a)) (ha : H a = some (.ins C dx fs)) (c : Cls K C) (n : NoAttr K C f) (hl : fs.length < 1000) (k : ∀ H1, Ex H H1 → D.nx σ (upd H1 a (.ins C dx (putF f v fs)))) : sFld K ta tv f D σ H :=
  hv H (Ex.refl H) _ fun H1 e1 => h H1 e1 _ fun H2 e2 => ⟨a, C, dx, fs, rfl, (e1.trans e2) _ _ ha, c, n, hl, k H2 (e1.trans e2)⟩
theorem q_fld (hv : Ev tv σ H v) (h : Ev ta σ H (.ref a)) (ha : H a = some (.ins C dx fs)) (c : Cls K C) (n : NoAttr K C f) (hl : fs.length < 1000) (k : ∀ H1, Ex H H1 → tz D σ (upd H1 a (.ins C dx (putF f v fs)))) : tSeq (sFld K ta tv f) tz D σ H := s_fld (D := { D with nx := tz D }) hv h ha c n hl k
theorem s_fldL (hv : EvL tv σ H xs) (h : Ev ta σ H (.ref a)) (ha : H a = some (.ins C dx fs)) (c : Cls K C) (n : NoAttr K C f) (hl : fs.length < 1000) (k : ∀ p H1, H p = none → Ex H H1 → H1 p = some (.lst xs) → D.nx σ (upd H1 a (.ins C dx (putF f (.ref p) fs)))) : sFld K ta tv f D σ H :=
  hv H (Ex.refl H) _ fun p H1 hp e1 h1 => h H1 e1 _ fun H2 e2 => ⟨a, C, dx, fs, rfl, (e1.trans e2) _ _ ha, c, n, hl, k p H2 hp (e1.trans e2) (e2 _ _ h1)⟩
theorem q_fldL (hv : EvL tv σ H xs) (h : Ev ta σ H (.ref a)) (ha : H a = some (.ins C dx fs)) (c : Cls K C) (n : NoAttr K C f) (hl : fs.length < 1000) (k : ∀ p H1, H p = none → Ex H H1 → H1 p = some (.lst xs) → tz D σ (upd H1 a (.ins C dx (putF f (.ref p) fs)))) : tSeq (sFld K ta tv f) tz D σ H := s_fldL (D := { D with nx := tz D }) hv h ha c n hl k
/-- e.f op= value, of whole numbers -/
theorem s_fldaug {rd : V → V → Hp → VK → Prop} {w : V} (h : Ev ta σ H (.ref a)) (ha : H a = some (.ins C dx fs)) (c : Cls K C) (n : NoAttr K C f) (hf : fs.lookup f = some w) (hv : Ev tv σ H v) (hr : ∀ H1 (Q : VK), Ex H H1 → Q z H1 → rd w v H1 Q) (hl : fs.length < 1000)
    (k : ∀ H1, Ex H H1 → D.nx σ (upd H1 a (.ins C dx (putF f z fs)))) : sFldAug K ta tv rd f D σ H :=
  h H (Ex.refl H) _ fun H1 e1 => ⟨a, C, dx, fs, w, rfl, e1 _ _ ha, c, n, hf, hv H1 e1 _ fun H2 e2 => hr H2 _ (e1.trans e2) ⟨dx, fs, (e1.trans e2) _ _ ha, hl, k H2 (e1.trans e2)⟩⟩
theorem ev_meth (h : Ev ta σ H (.ref a)) (ha : H a = some (.ins C dx fs)) (hm : fs.lookup m = none) (hA : EvA t σ H vs) (hs : SpV sp (.ref a :: (vs ++ dvs)) H z) : Ev (tMeth C m sp dvs E ta t) σ H z := fun H1 e Q q =>
  h H1 e _ fun H2 e2 => ⟨a, dx, fs, rfl, (e.trans e2) _ _ ha, hm, hA H2 (e.trans e2) _ fun H3 e3 => hs H3 ((e.trans e2).trans e3) Q (fun H4 e4 => q H4 ((e2.trans e3).trans e4)) E⟩
theorem el_meth (h : Ev ta σ H (.ref a)) (ha : H a = some (.ins C dx fs)) (hm : fs.lookup m = none) (hA : EvA t σ H vs) (hs : SpL sp (.ref a :: (vs ++ dvs)) H xs) : EvL (tMeth C m sp dvs E ta t) σ H xs := fun H1 e Q q =>
  h H1 e _ fun H2 e2 => ⟨a, dx, fs, rfl, (e.trans e2) _ _ ha, hm, hA H2 (e.trans e2) _ fun H3 e3 => hs H3 ((e.trans e2).trans e3) Q (fun p H4 hp e4 h4 => q p H4 (fresh_back (e2.trans e3) hp) ((e2.trans e3).trans e4) h4) E⟩
/-- a call that hands back a new tuple -/
def SpU (sp : Sp) (vs : List V) (H : Hp) (xs : List V) : Prop := ∀ H1, Ex H H1 → ∀ Q : VK, (∀ p H2, H1 p = none → Ex H1 H2 → H2 p = some (.tup xs) → Q (.ref p) H2) → ∀ E : XK, sp vs H1 Q E
theorem eu_meth (h : Ev ta σ H (.ref a)) (ha : H a = some (.ins C dx fs)) (hm : fs.lookup m = none) (hA : EvA t σ H vs) (hs : SpU sp (.ref a :: (vs ++ dvs)) H xs) : EvU (tMeth C m sp dvs E ta t) σ H xs := fun H1 e Q q =>
  h H1 e _ fun H2 e2 => ⟨a, dx, fs, rfl, (e.trans e2) _ _ ha, hm, hA H2 (e.trans e2) _ fun H3 e3 => hs H3 ((e.trans e2).trans e3) Q (fun p H4 hp e4 h4 => q p H4 (fresh_back (e2.trans e3) hp) ((e2.trans e3).trans e4) h4) E⟩
theorem eu_call {ta : TA} (h : EvA ta σ H vs) (hs : SpU sp (vs ++ dvs) H xs) : EvU (tCall sp dvs E ta) σ H xs := fun H1 e Q q =>
  h H1 e _ fun H2 e2 => hs H2 (e.trans e2) Q (fun p H3 hp e3 h3 => q p H3 (fresh_back e2 hp) (e2.trans e3) h3) E
/-- any method's call, raw -/
theorem te_meth {Q : VK} (h : Ev ta σ H (.ref a)) (ha : H a = some (.ins C dx fs)) (hm : fs.lookup m = none) (hA : EvA t σ H vs) (k : ∀ H1, Ex H H1 → sp (.ref a :: (vs ++ dvs)) H1 Q E) : tMeth C m sp dvs E ta t σ H Q :=
  h H (Ex.refl H) _ fun H2 e2 => ⟨a, dx, fs, rfl, e2 _ _ ha, hm, hA H2 e2 _ fun H3 e3 => k H3 (e2.trans e3)⟩
theorem te_methX {Q : VK} (h : Ev ta σ H (.ref a)) (ha : H a = some (.ins C dx fs)) (hm : fs.lookup m = none) (k : ∀ H1, Ex H H1 → t σ H1 fun vs H2 => sp (.ref a :: (vs ++ dvs)) H2 Q E) : tMeth C m sp dvs E ta t σ H Q :=
  h H (Ex.refl H) _ fun H2 e2 => ⟨a, dx, fs, rfl, e2 _ _ ha, hm, k H2 e2⟩
theorem te_makeX {Q : VK} (k : t σ H fun vs H1 => ∀ x y, H1 x = none → H1 y = none → y ≠ x → sp (.ref x :: (vs ++ dvs)) (upd (upd H1 y (.own x)) x (.ins C y [])) (fun v H2 => v = .non ∧ Q (.ref x) H2) E) : tMake C sp dvs E t σ H Q := k
theorem te_make {Q : VK} (hA : EvA t σ H vs) (k : ∀ x y H1, Ex H H1 → H1 x = none → H1 y = none → y ≠ x → sp (.ref x :: (vs ++ dvs)) (upd (upd H1 y (.own x)) x (.ins C y [])) (fun v H2 => v = .non ∧ Q (.ref x) H2) E) : tMake C sp dvs E t σ H Q :=
  hA H (Ex.refl H) _ fun H1 e1 x y hx hy hne => k x y H1 e1 hx hy hne
end
/-! ### all but some places (and the tables) stays -/
def Fr (F : List Addr) (H H' : Hp) : Prop := ∀ a o, H a = some o → (∀ ps, o ≠ .tbl ps) → a ∉ F → H' a = some o
def Nw (H : Hp) (p : Addr) : Prop := ∀ o, H p = some o → ∃ ps, o = .tbl ps
theorem Nw.of {H : Hp} {p : Addr} (h : H p = none) : Nw H p := fun o z => by rw [h] at z; cases z
theorem Nw.back {H H' : Hp} {p : Addr} (e : LamX.ExtN H H') (h : Nw H' p) : Nw H p := fun o z => by
  cases o with
  | tbl ps => exact ⟨ps, rfl⟩
  | _ => exact h _ (e _ _ z fun _ q => nomatch q)
theorem Fr.refl (F : List Addr) (H : Hp) : Fr F H H := fun _ _ h _ _ => h
theorem Fr.trans {F : List Addr} {H H1 H2 : Hp} (a : Fr F H H1) (b : Fr F H1 H2) : Fr F H H2 := fun x o h n hx => b x o (a x o h n hx) n hx
theorem Fr.ex {F : List Addr} {H H' : Hp} (e : Ex H H') : Fr F H H' := fun x o h _ _ => e x o h
theorem Fr.exN {F : List Addr} {H H' : Hp} (e : LamX.ExtN H H') : Fr F H H' := fun x o h n _ => e x o h n
theorem Fr.mono {F G : List Addr} {H H' : Hp} (a : Fr F H H') (h : ∀ x ∈ F, x ∈ G) : Fr G H H' := fun x o hx n hg => a x o hx n fun z => hg (h x z)
theorem Fr.upd {F : List Addr} {H H' : Hp} {p : Addr} {o : HO} (a : Fr F H H') (h : p ∈ F) : Fr F H (upd H' p o) := fun x u hx n hf => by
  rw [upd_ne fun z => hf (by rw [z]; exact h)]
  exact a x u hx n hf
theorem Fr.new {F : List Addr} {H H' : Hp} {p : Addr} {o : HO} (a : Fr F H H') (h : Nw H p) : Fr F H (L2.upd H' p o) := fun x u hx n hf => by
  rw [upd_ne fun z => by rw [z] at hx; obtain ⟨ps, e⟩ := h u hx; exact n ps e]
  exact a x u hx n hf
/-- what is new to H0 may change: all of H0 stays -/
theorem ext_of {F : List Addr} {H0 H H' : Hp} (e : LamX.ExtN H0 H) (f : Fr F H H') (h : ∀ a ∈ F, Nw H0 a) : LamX.ExtN H0 H' := fun x o hx n => f x o (e x o hx n) n fun z => by
  obtain ⟨ps, q⟩ := h x z o hx
  exact n ps q
theorem Fr.l {F : List Addr} {H H' : Hp} {a : Addr} {xs : List V} (f : Fr F H H') (h : H a = some (.lst xs)) (n : a ∉ F) : H' a = some (.lst xs) := f a _ h (fun _ z => nomatch z) n
theorem Fr.t {F : List Addr} {H H' : Hp} {a : Addr} {xs : List V} (f : Fr F H H') (h : H a = some (.tup xs)) (n : a ∉ F) : H' a = some (.tup xs) := f a _ h (fun _ z => nomatch z) n
theorem Fr.i {F : List Addr} {H H' : Hp} {a C dx : Addr} {fs : List (Str × V)} (f : Fr F H H') (h : H a = some (.ins C dx fs)) (n : a ∉ F) : H' a = some (.ins C dx fs) := f a _ h (fun _ z => nomatch z) n
/-! ### comprehensions whose element makes something -/
section
variable {K : PySem.W.Frag} {σ : L2.St} {H : Hp} {tt : TT} {te : TE} {g : TG} {vs : List Nat} {a b : Addr} {xs ys : List V} {ta : TA} {Q : VK}
theorem rz_lc (h : EvA ta σ H [.ref a, .ref b]) (hx : SqL K H a xs) (hy : SqL K H b ys) (hl : xs.length = ys.length) (Pv : Addr → Nat → Hp → Prop) (h0 : ∀ D H1, Ex H H1 → H1 D = none → Pv D 0 (upd H1 D (.lst []))) (hq : ∀ D i H', Pv D i H' → SqL K H' a xs ∧ SqL K H' b ys)
    (hs : ∀ D i x y T H', xs[i]? = some x → ys[i]? = some y → Pv D i H' → H' T = none → g (.ref T) (wipe σ vs) (upd H' T (.tup [x, y])) fun σ2 H2 => wipe σ2 vs = wipe σ vs ∧ tt σ2 H2 fun b H3 =>
      if b = true then te σ2 H3 fun y H4 => ∃ acc, H4 D = some (.lst acc) ∧ acc.length < sizeLine ∧ Pv D (i + 1) (upd H4 D (.lst (acc ++ [y]))) else Pv D (i + 1) H3)
    (hd : ∀ D H', Pv D xs.length H' → Q (.ref D) H') : tLc (RZ.iZipA K ta) g tt te vs σ H Q := h H (Ex.refl H) _ fun H1 e1 => ⟨a, b, xs, ys, rfl, .inl ⟨ex_l e1 hx, ex_l e1 hy, fun Dl hD => by
  refine ⟨fun i m H' => m = xs.length - i ∧ i ≤ xs.length ∧ Pv Dl i H', ⟨xs.length, by simp, Nat.zero_le _, h0 Dl H1 e1 hD⟩, ?_⟩
  rintro i m H' ⟨rfl, hi, p⟩
  obtain ⟨hX, hY⟩ := hq Dl i H' p
  by_cases hlt : i < xs.length
  · have hlt2 : i < ys.length := by omega
    refine .inr ⟨⟨xs, ys, xs[i], ys[i], hX, hY, List.getElem?_eq_getElem hlt, List.getElem?_eq_getElem hlt2⟩, Pv Dl (i + 1), fun H2 p' => ⟨xs.length - (i + 1), by omega, rfl, hlt, p'⟩, fun z H2 hzz => ?_⟩
    obtain ⟨T, x, y, rfl, nT, rfl, hxx, hyy⟩ := hzz
    exact hs Dl i x y T H' (hxx xs hX) (hyy ys hY) p nT
  · have ei : i = xs.length := by omega
    subst ei
    exact .inl ⟨⟨xs, ys, hX, hY, .inl (Nat.le_refl _)⟩, hd Dl H' p⟩⟩⟩
theorem rl_lc {tl : TE} (h : Ev tl σ H (.ref a)) (hx : SqL K H a xs) (Pv : Addr → Nat → Hp → Prop) (h0 : ∀ D H1, Ex H H1 → H1 D = none → Pv D 0 (upd H1 D (.lst []))) (hq : ∀ D i H', Pv D i H' → SqL K H' a xs)
    (hs : ∀ D i x H', xs[i]? = some x → Pv D i H' → g x (wipe σ vs) H' fun σ2 H2 => wipe σ2 vs = wipe σ vs ∧ tt σ2 H2 fun b H3 =>
      if b = true then te σ2 H3 fun y H4 => ∃ acc, H4 D = some (.lst acc) ∧ acc.length < sizeLine ∧ Pv D (i + 1) (upd H4 D (.lst (acc ++ [y]))) else Pv D (i + 1) H3)
    (hd : ∀ D H', Pv D xs.length H' → Q (.ref D) H') : tLc (iList K tl) g tt te vs σ H Q := h H (Ex.refl H) _ fun H1 e1 => ⟨a, rfl, ⟨xs, ex_l e1 hx⟩, fun Dl hD => lc_list (xs := xs) (Pv Dl) (h0 Dl H1 e1 hD) (fun i H' _ p => hq Dl i H' p) (fun i x H' hi p => hs Dl i x H' hi p) (fun H' p => hd Dl H' p)⟩
end
/-! ### all but some places stays, the tables too -/
def ExF (F : List Addr) (H H' : Hp) : Prop := ∀ a o, H a = some o → a ∉ F → H' a = some o
theorem ExF.refl (F : List Addr) (H : Hp) : ExF F H H := fun _ _ h _ => h
theorem ExF.trans {F : List Addr} {H H1 H2 : Hp} (a : ExF F H H1) (b : ExF F H1 H2) : ExF F H H2 := fun x o h hx => b x o (a x o h hx) hx
theorem ExF.ex {F : List Addr} {H H' : Hp} (e : Ex H H') : ExF F H H' := fun x o h _ => e x o h
theorem ExF.upd {F : List Addr} {H H' : Hp} {p : Addr} {o : HO} (a : ExF F H H') (h : p ∈ F) : ExF F H (L2.upd H' p o) := fun x u hx hf => by
  rw [upd_ne fun z => hf (by rw [z]; exact h)]
  exact a x u hx hf
theorem ExF.new {F : List Addr} {H H' : Hp} {p : Addr} {o : HO} (a : ExF F H H') (h : H p = none) : ExF F H (L2.upd H' p o) := fun x u hx hf => by
  rw [upd_ne fun z => by rw [z, h] at hx; cases hx]
  exact a x u hx hf
theorem ExF.mono {F G : List Addr} {H H' : Hp} (a : ExF F H H') (h : ∀ x ∈ F, x ∈ G) : ExF G H H' := fun x o hx hg => a x o hx fun z => hg (h x z)
theorem ExF.fr {F : List Addr} {H H' : Hp} (a : ExF F H H') : Fr F H H' := fun x o h _ hx => a x o h hx
theorem ExF.l {F : List Addr} {H H' : Hp} {a : Addr} {xs : List V} (f : ExF F H H') (h : H a = some (.lst xs)) (n : a ∉ F) : H' a = some (.lst xs) := f a _ h n
/-- lists and instances, or nothing -/
def Soft (F : List Addr) (H : Hp) : Prop := ∀ a ∈ F, H a = none ∨ (∃ xs, H a = some (.lst xs)) ∨ ∃ C dx fs, H a = some (.ins C dx fs)
theorem tabs_exF {T : List (Addr × Str)} {F : List Addr} {H H' : Hp} (t : LamX.Tabs T H) (e : ExF F H H') (s : Soft F H) : LamX.Tabs T H' := fun q hq => by
  obtain ⟨ps, h1, h2, h3⟩ := t q hq
  refine ⟨ps, e _ _ h1 fun z => ?_, h2, fun pos cv hc => ?_⟩
  · rcases s _ z with h | ⟨xs, h⟩ | ⟨C, dx, fs, h⟩ <;> rw [h1] at h <;> cases h
  · obtain ⟨c, e1, e2⟩ := h3 pos cv hc
    refine ⟨c, e1, e _ _ e2 fun z => ?_⟩
    rcases s _ z with h | ⟨xs, h⟩ | ⟨C, dx, fs, h⟩ <;> rw [e2] at h <;> first | cases h | (unfold LamX.CodeO at h; cases h)
theorem q_asgX {te : TE} {σ : L2.St} {H : Hp} {i : Nat} {D : Ends} {tz : TS} (k : te σ H fun v H1 => tz D (σ.set i (some v)) H1) : tSeq (tAsg te (gName i)) tz D σ H := k
theorem q_fldX {K : PySem.W.Frag} {tv : TE} {σ : L2.St} {H : Hp} {i : Nat} {f : Str} {D : Ends} {tz : TS} (k : tv σ H fun v H1 => tVar i σ H1 fun x H2 => ∃ a C dx fs, x = .ref a ∧ H2 a = some (.ins C dx fs) ∧ Cls K C ∧ NoAttr K C f ∧ fs.length < 1000 ∧ tz D σ (L2.upd H2 a (.ins C dx (putF f v fs)))) : tSeq (sFld K (tVar i) tv f) tz D σ H := k
theorem fld_end {K : PySem.W.Frag} {σ : L2.St} {H : Hp} {i : Nat} {a C dx : Addr} {fs : List (Str × V)} {f : Str} {D : Ends} {tz : TS} {v : V} (hi : σ[i]? = some (some (.ref a))) (ha : H a = some (.ins C dx fs)) (c : Cls K C) (n : NoAttr K C f) (hl : fs.length < 1000) (k : tz D σ (L2.upd H a (.ins C dx (putF f v fs)))) :
    tVar i σ H fun x H2 => ∃ a C dx fs, x = .ref a ∧ H2 a = some (.ins C dx fs) ∧ Cls K C ∧ NoAttr K C f ∧ fs.length < 1000 ∧ tz D σ (L2.upd H2 a (.ins C dx (putF f v fs))) := ⟨_, hi, a, C, dx, fs, rfl, ha, c, n, hl, k⟩
theorem q_dropX {te : TE} {σ : L2.St} {H : Hp} {D : Ends} {tz : TS} (k : te σ H fun _ H1 => tz D σ H1) : tSeq (tDrop te) tz D σ H := k
theorem q_asgXg {te : TE} {g : TG} {σ : L2.St} {H : Hp} {D : Ends} {tz : TS} (k : te σ H fun v H1 => g v σ H1 (tz D)) : tSeq (tAsg te g) tz D σ H := k
theorem s_appX {K : PySem.W.Frag} {σ : L2.St} {H : Hp} {ta te : TE} {D : Ends} {l : Addr} {xs : List V} (hl : H l = some (.lst xs)) (ha : Ev ta σ H (.ref l)) (k : ∀ H1, Ex H H1 → te σ H1 fun v H2 => rAppend (.ref l) [v] H2 fun _ H3 => D.nx σ H3) : tDrop (tBM K "list" rAppend ta (tCons te tNil)) D σ H :=
  ha H (Ex.refl H) _ fun H1 e1 => ⟨Or.inl ⟨rfl, xs, sq_of (e1 l _ hl)⟩, k H1 e1⟩
theorem q_appX {K : PySem.W.Frag} {σ : L2.St} {H : Hp} {ta te : TE} {D : Ends} {tz : TS} {l : Addr} {xs : List V} (hl : H l = some (.lst xs)) (ha : Ev ta σ H (.ref l)) (k : ∀ H1, Ex H H1 → te σ H1 fun v H2 => rAppend (.ref l) [v] H2 fun _ H3 => tz D σ H3) : tSeq (tDrop (tBM K "list" rAppend ta (tCons te tNil))) tz D σ H := s_appX (D := { D with nx := tz D }) hl ha k
theorem te_if {t : TT} {ta tb : TE} {σ : L2.St} {H : Hp} {Q : VK} {b : Bool} (h : EvT t σ H b) (h1 : b = true → ∀ H1, Ex H H1 → ta σ H1 Q) (h2 : b = false → ∀ H1, Ex H H1 → tb σ H1 Q) : tIf t ta tb σ H Q := h H (Ex.refl H) _ fun H1 e1 => by
  cases b with
  | true => rw [if_pos rfl]; exact h1 rfl H1 e1
  | false => rw [if_neg Bool.false_ne_true]; exact h2 rfl H1 e1
theorem ea_star {K : PySem.W.Frag} {te : TE} {tr : TA} {σ : L2.St} {H : Hp} {p : Addr} {xs vs : List V} (h : Ev te σ H (.ref p)) (hp : SqT K H p xs) (hr : EvA tr σ H vs) : EvA (StX.tStar K te tr) σ H (xs ++ vs) := fun H1 e Q q =>
  h H1 e _ fun H2 e2 => ⟨p, xs, rfl, .inl (ex_t (e.trans e2) hp), hr H2 (e.trans e2) _ fun H3 e3 => q H3 (e2.trans e3)⟩
/-! ### arguments that make new places -/
section
variable {K : PySem.W.Frag} {σ : L2.St} {H : Hp} {te tl : TE} {tr : TA} {v : V} {xs : List V}
theorem ta_cons {Q : List V → Hp → Prop} (h : Ev te σ H v) (k : ∀ H1, Ex H H1 → tr σ H1 fun vs H2 => Q (v :: vs) H2) : tCons te tr σ H Q := h H (Ex.refl H) _ k
theorem ta_consX {Q : List V → Hp → Prop} (k : te σ H fun x H1 => tr σ H1 fun xs H2 => Q (x :: xs) H2) : tCons te tr σ H Q := k
theorem ta_all {ta : TA} {vs : List V} {Q : List V → Hp → Prop} (h : EvA ta σ H vs) (k : ∀ H1, Ex H H1 → Q vs H1) : ta σ H Q := h H (Ex.refl H) _ k
theorem te_call {sp : Sp} {dvs vs : List V} {E : XK} {ta : TA} {Q : VK} (h : EvA ta σ H vs) (k : ∀ H1, Ex H H1 → sp (vs ++ dvs) H1 Q E) : tCall sp dvs E ta σ H Q := h H (Ex.refl H) _ k
theorem s_retX {ta : TA} {D : Ends} (k : ta σ H fun xs H1 => xs.length ≤ sizeLine ∧ ∀ p, H1 p = none → D.rt (.ref p) (upd H1 p (.lst xs))) : tRet (tLst ta) D σ H := k
end

end Su
namespace Su
open LamX NdefX
/-! ### min, max with a lambda as key: the lambda called -/
section
variable {X : Cx} {pins : List (Addr × Obj)} {σ : L2.St} {H : Hp} {s : Shared}
abbrev lamF (X : Cx) (params : Arguments) (scope : Scope) (c' : Addr) : NF := ⟨"<lambda>", X.env.qual ++ "<lambda>", params, [], scope, cloFrom X.env.cells scope.names [], c'⟩
abbrev lamO (X : Cx) (params : Arguments) (body : Expr) (scope : Scope) (pm : Value) (c' : Addr) (ctv : Value) : Obj := PySem.W.kla_obj "<lambda>" (X.env.qual ++ "<lambda>") params body scope (cloFrom X.env.cells scope.names []) pm c' ctv
theorem lam_call {A' : Around} {k : Nat} {f c' : Addr} {pm ctv : Value} {params : Arguments} {body : Expr} {scope : Scope} {N fr : List Str} {kx : Str} {x : V} {u : Value} {ws : List (Option V)} {tb : TE} {Q : VK}
    (I : Inv X pins σ H s) (e0 : Env0 X.prog X.w X.K X.mg X.base A' X.stack s H) (hr : Room (k + 1) A') (hf : s.heap.get? f = some (lamO X params body scope pm c' ctv)) (hc : H c' = some (CodeO c' (X.env.qual ++ "<lambda>")))
    (S : NScope N [kx] fr scope) (hbind : bindArgs (PySem.W.kla_fn "<lambda>" (X.env.qual ++ "<lambda>") params body scope (cloFrom X.env.cells scope.names []) pm (.ref c') ctv) ⟨[u], []⟩ = pure [(kx, u)])
    (C : CellsAt (cloFrom X.env.cells scope.names []) fr ws s.heap H) (r : L2.RelV x u) (hbody : PE (ncx CX0 X.prog X.w X.K X.mg X.base N (lamF X params scope c') f A' X.stack s H E0) body tb) (ht : tb (startF N [x] ws) H Q) :
    codeAny (model X.prog X.w) A' (.call (.ref f) ⟨[u], []⟩) (CR CX0 X.stack X.prog X.w H s Q E0) s := by
  obtain ⟨⟨oc, vs, t, hoc, hdc, hvc⟩, _, _⟩ := I.hok c' _ hc
  refine PySem.W.kla_callFunE hr.depth hf rfl S.co S.gen rfl ⟨c', oc, vs, t, rfl, hoc, hdc, hvc⟩ ?_
  rw [hbind]
  refine wpAny_pure (wpAny_newFunctionEnv S.nocell (fun y hy => by rw [List.mem_singleton.mp hy]; exact S.par kx List.mem_cons_self) (fun h₁ hns hsb => ⟨I.nolimit.fresh _ hsb, ?_⟩) S.kind)
  show codeAny _ _ (.expr body (envF (lamF X params scope c') f s.heap.objs.size)) _ _
  have J := inv_startN (CX := CX0) (E := E0) (N := N) (ps := [kx]) (us := [u]) (vs := [x]) (F := lamF X params scope c') (f := f) (tk := s.toks + ([(kx, u)] : List (Str × Value)).length) S hr.hd e0 rfl (.cons r .nil) C hns fun b o e => hsb.extBut b o (Nat.ne_of_lt (Heap.lt_size e)) (Heap.get?_push_of_some _ e)
  exact PySem.W.kla_codeExpr (wpAny_mono (hbody.run [] _ _ H Q J ht) (fun v s' ⟨w', H', J', rv, q⟩ => ⟨w', H', J'.os, J'.bare, J'.base, J'.hok, rv, q⟩) fun e s' hq => hq)
end
/-! ### what is known behind a call: all of before, and tuples -/
def hstar (H' H'' : Hp) : Hp := fun b => match H' b with
  | some o => some o
  | none => match H'' b with
    | some (.tup xs) => some (.tup xs)
    | _ => none
section
variable {H' H'' : Hp}
theorem hs_old {b : Addr} {o : HO} (e : H' b = some o) : hstar H' H'' b = some o := by unfold hstar; rw [e]
theorem hs_tup {b : Addr} {xs : List V} (ex : Ex H' H'') (e : H'' b = some (.tup xs)) : hstar H' H'' b = some (.tup xs) := by
  unfold hstar
  cases h : H' b with
  | some o => rw [ex b o h] at e; exact e
  | none => rw [e]
theorem hs_none {b : Addr} (e : H'' b = none) (n : H' b = none) : hstar H' H'' b = none := by unfold hstar; rw [n, e]
theorem hs_new {b : Addr} {o : HO} (e : hstar H' H'' b = some o) : H' b = some o ∨ (H' b = none ∧ ∃ xs, o = .tup xs ∧ H'' b = some (.tup xs)) := by
  unfold hstar at e
  cases h : H' b with
  | some o' => rw [h] at e; exact .inl e
  | none =>
    rw [h] at e
    cases h2 : H'' b with
    | none => rw [h2] at e; cases e
    | some o2 =>
      rw [h2] at e
      cases o2 with
      | tup xs => exact .inr ⟨rfl, xs, (Option.some.inj e).symm, rfl⟩
      | _ => cases e
theorem hs_ex : Ex H' (hstar H' H'') := fun b o e => hs_old e
theorem ok_star {P : Program} {w : World} {h0 h : Heap} {b : Addr} {o : HO} (ex : Ex H' H'') (x0 : ObjOk P w H' h0 b o) (x : ObjOk P w H'' h b o) : ObjOk P w (hstar H' H'') h b o := by
  induction o with
  | dT kvs =>
    obtain ⟨a1, a2, xs, a3, a4⟩ := x
    exact ⟨a1, a2, xs, L2.Paired.mapP a3 fun p q ⟨z1, z2, z3⟩ => ⟨z1, hs_tup ex z2, z3⟩, a4⟩
  | ins C dx fs => exact ⟨hs_old x0.1, x.2⟩
  | frz ob u ih => exact ⟨x.1, ih x0.2 x.2⟩
  | _ => exact x
theorem hok_star {P : Program} {w : World} {h0 h : Heap} (ex : Ex H' H'') (k0 : HOk P w H' h0) (k : HOk P w H'' h) : HOk P w (hstar H' H'') h := fun b o e => by
  rcases hs_new e with e1 | ⟨_, xs, rfl, e2⟩
  · exact ok_star ex (k0 b o e1) (k b o (ex b o e1))
  · exact k b _ e2
theorem un_star {fs xx : List Addr} {h h' : Heap} (u : Un fs xx H' H'' h h') : Un fs xx H' (hstar H' H'') h h' :=
  ⟨u.keep, u.slot, fun b o e n hx => hs_none (u.free b o e n hx) n, u.there, fun b xs e => hs_old e, fun b o w e => hs_old e, fun b ps e => ⟨#[], by rw [hs_old e]; simp⟩⟩
end

/-! ### one item's key -/
structure KJ (X : Cx) (pins : List (Addr × Obj)) (σ : L2.St) (Hf : Hp) (f : Addr) (fo : Obj) (S It : Addr) (s : Shared) : Prop where
  ex : ∃ H', Inv X pins σ H' s ∧ Ex Hf H' ∧ (∀ b o, H' b = some o → Hf b = some o ∨ ∃ xs, o = .tup xs) ∧ FpOk X pins H' S ∧ FpOk X pins H' It ∧ H' f = none ∧ s.heap.get? f = some fo
section
variable {X : Cx} {pins : List (Addr × Obj)} {σ : L2.St} {Hf : Hp} {f : Addr} {fo : Obj} {S It : Addr} {s s' : Shared}
theorem KJ.keep (j : KJ X pins σ Hf f fo S It s) (hS : f ≠ S) (hI : f ≠ It) (m : Moved (S :: [It]) (fun a b => b = a) s s') : KJ X pins σ Hf f fo S It s' := by
  obtain ⟨H', I, e, n, fs, fi, hf, ho⟩ := j
  have J := I.turnedL (t' := s'.toks) (ch := [S, It]) (h' := s'.heap) (fun b o hb => m.heap b o hb) (fun b hb => by
    rcases List.mem_cons.mp hb with z | z
    · rw [z]; exact fs
    · rw [List.mem_singleton.mp z]; exact fi)
  have g1 := m.gens
  have g2 := m.drawn
  have g3 := m.os
  have hk := m.heap f fo (fun z => by
    rcases List.mem_cons.mp z with z | z
    · exact hS z
    · exact hI (List.mem_singleton.mp z)) ho
  obtain ⟨h', gg, dd, tt, oo⟩ := s'
  simp only at g1 g2 g3
  subst g1 g2 g3
  exact ⟨H', J, e, n, fs, fi, hf, hk⟩
theorem fp_frs {H' : Hp} {b : Addr} (I : Inv X pins σ H' s) (h : FpOk X pins H' b) : b ∉ frs X.stack := fun z => by
  rcases List.mem_cons.mp (I.stkSub b z) with e | e
  · exact h.2.1 e
  · exact h.2.2.1 e
theorem key_core {k : Nat} {c' : Addr} {pm ctv : Value} {params : Arguments} {body : Expr} {scope : Scope} {N fr : List Str} {js : List Nat} {kx : Str} {x : V} {v : Value} {tb : TE} {R : V → Hp → Hp → Prop} {oS oI : Obj} {Q E : Value → Shared → Prop}
    (j : KJ X pins σ Hf f (lamO X params body scope pm c' ctv) S It s) (hr : Room (k + 1) X.A.in1) (hc : Hf c' = some (CodeO c' (X.env.qual ++ "<lambda>"))) (NS : NScope N [kx] fr scope)
    (hbind : ∀ u : Value, bindArgs (PySem.W.kla_fn "<lambda>" (X.env.qual ++ "<lambda>") params body scope (cloFrom X.env.cells scope.names []) pm (.ref c') ctv) ⟨[u], []⟩ = pure [(kx, u)]) (cp : X.Ok → Caps X (cloFrom X.env.cells scope.names []) fr js) (hfr : f ∉ frs X.stack)
    (hbody : ∀ (s : Shared) (H : Hp), PE (ncx CX0 X.prog X.w X.K X.mg X.base N (lamF X params scope c') f X.A.in1 X.stack s H E0) body tb) (r : L2.RelV x v) (hS : s.heap.get? S = some oS) (hI : s.heap.get? It = some oI)
    (ht : ∀ H', Ex Hf H' → tb (startF N [x] (js.map (slotAt σ))) H' (fun y H2 => R y H' H2)) (hR : ∀ y H' H2, R y H' H2 → Ex H' H2)
    (kk : ∀ kv y s' H' H'', Inv X pins σ H' s → Ex Hf H' → (∀ b o, H' b = some o → Hf b = some o ∨ ∃ xs, o = .tup xs) → FpOk X pins H' S → FpOk X pins H' It → R y H' H'' → L2.RelV y kv → Un (frs X.stack) [] H' H'' s.heap s'.heap → HOk X.prog X.w H'' s'.heap →
      Inv X pins σ (hstar H' H'') s' → KJ X pins σ Hf f (lamO X params body scope pm c' ctv) S It s' → s'.heap.get? S = some oS → s'.heap.get? It = some oI → Q kv s') : wpAny (model X.prog X.w) X.A.in1 (call (.ref f) [v]) Q E s := by
  obtain ⟨H', I, e, n, fs, fi, hf, ho⟩ := j
  have rc := lam_call (k := k) I I.env0.in1 hr ho (e _ _ hc) NS (hbind v) (cells_of I (cp I.ok)) r (hbody s H') (ht H' e)
  refine wpAny_call (codeAny_mono rc fun r s' hq => ?_)
  cases r with
  | error e => exact (show False from hq).elim
  | ok fl =>
    cases fl with
    | next => exact False.elim hq
    | brk => exact False.elim hq
    | cont => exact False.elim hq
    | ret u =>
      obtain ⟨y, H'', os, bare, un, hok, rv, hRy⟩ := hq
      have ex2 := hR y H' H'' hRy
      have J : Inv X pins σ (hstar H' H'') s' := I.call' os (un_star un) (hok_star ex2 I.hok hok) bare fun b z => absurd z (by simp)
      have nS : hstar H' H'' S = none := hs_none (un.free S oS hS fs.1 (by simp)) fs.1
      have nI : hstar H' H'' It = none := hs_none (un.free It oI hI fi.1 (by simp)) fi.1
      have nf : hstar H' H'' f = none := hs_none (un.free f _ ho hf (by simp)) hf
      exact kk u y s' H' H'' I e n fs fi hRy rv un hok J ⟨_, J, e.trans hs_ex, fun b o h => (hs_new h).elim (fun z => n b o z) (fun z => .inr ⟨z.2.choose, z.2.choose_spec.1⟩), ⟨nS, fs.2⟩, ⟨nI, fi.2⟩, nf, un.keep f _ ho hf hfr (by simp)⟩
        (un.keep S oS hS fs.1 (fp_frs I fs) (by simp)) (un.keep It oI hI fi.1 (fp_frs I fi) (by simp))
end
/-! ### keys that are tuples of whole numbers; keys that are whole numbers -/
def KVt (X : Cx) (Hf : Hp) (S It : Addr) (ks : Nat → List Int) (i : Nat) (kv : Value) (s : Shared) : Prop := ∃ (a : Addr) (items : Array Value), kv = .ref a ∧ IsTup s.heap a items ∧ IntsAre items.toList (ks i) ∧ Hf a = none ∧ a ≠ S ∧ a ≠ It ∧ a ∉ frs X.stack
def KVi (ks : Nat → Int) (i : Nat) (kv : Value) (_ : Shared) : Prop := ∃ t, kv = .int (ks i) t
theorem ints_vals : ∀ {its : List Value} {ns : List Int} {xs : List V}, IntsAre its ns → Vals xs its → xs = ns.map V.int := fun h r => Vals.inj r (vals_of_ints h)
theorem tup_items {h : Heap} {a : Addr} {i1 i2 : Array Value} (h1 : IsTup h a i1) (h2 : IsTup h a i2) : i1 = i2 := by
  obtain ⟨o1, e1, _, n1, d1⟩ := h1
  obtain ⟨o2, e2, _, n2, d2⟩ := h2
  rw [e1] at e2
  cases e2
  rw [d1] at d2
  cases d2
  rfl
section
variable {X : Cx} {pins : List (Addr × Obj)} {σ : L2.St} {Hf : Hp} {f l It S c' : Addr} {pm ctv : Value} {od : Obj} {k : Nat} {params : Arguments} {body : Expr} {scope : Scope} {N fr : List Str} {js : List Nat} {kx : Str} {xs : List V} {its : List Value} {tb : TE}
theorem keyrunT {ks : Nat → List Int} (hl : Hf l = some (.frz od (.lst xs))) (rx : Vals xs its) (hfS : f ≠ S) (hfI : f ≠ It) (hr : Room (k + 1) X.A.in1) (hc : Hf c' = some (CodeO c' (X.env.qual ++ "<lambda>"))) (NS : NScope N [kx] fr scope)
    (hbind : ∀ u : Value, bindArgs (PySem.W.kla_fn "<lambda>" (X.env.qual ++ "<lambda>") params body scope (cloFrom X.env.cells scope.names []) pm (.ref c') ctv) ⟨[u], []⟩ = pure [(kx, u)]) (cp : X.Ok → Caps X (cloFrom X.env.cells scope.names []) fr js) (hfr : f ∉ frs X.stack)
    (hbody : ∀ (s : Shared) (H : Hp), PE (ncx CX0 X.prog X.w X.K X.mg X.base N (lamF X params scope c') f X.A.in1 X.stack s H E0) body tb)
    (ht : ∀ i x, xs[i]? = some x → EvU tb (startF N [x] (js.map (slotAt σ))) Hf ((ks i).map V.int)) :
    KeyRun X.prog X.w X.A.in1 (.ref f) .Lt S [It] (fun a b => b = a) its.toArray.size (fun i v => its.toArray[i]? = some v) (fun i s => s.heap.IsListIter It l i ∧ s.heap.IsList l its.toArray) (KJ X pins σ Hf f (lamO X params body scope pm c' ctv) S It) (KVt X Hf S It ks) (fun i j => HT.lexLt (ks i) (ks j)) where
  keep := fun s s' j m => j.keep hfS hfI m
  keepV := fun i kv s s' ⟨a, items, e, ht, hi, h0, h1, h2, h3⟩ m => ⟨a, items, e, by
    obtain ⟨o, ho, r⟩ := ht
    exact ⟨o, m.heap a o (fun z => by
      rcases List.mem_cons.mp z with z | z
      · exact h1 z
      · exact h2 (List.mem_singleton.mp z)) ho, r⟩, hi, h0, h1, h2, h3⟩
  turn := fun i v s o Q E hi hP hJ hst hS kq => by
    have hlen := rx.length
    have hi' : i < xs.length := by rw [hlen]; simpa using hi
    obtain ⟨u, hu, ru⟩ := rx.get (List.getElem?_eq_getElem hi')
    obtain rfl : u = v := by
      have : its[i]? = some v := by simpa using hP
      exact Option.some.inj (hu.symm.trans this)
    obtain ⟨⟨oI, hI, hI1, hI2⟩, ⟨oL, hL, hL1⟩⟩ := hst
    refine key_core (R := fun y H' H2 => ∃ p, y = .ref p ∧ H' p = none ∧ Ex H' H2 ∧ H2 p = some (.tup ((ks i).map V.int))) hJ hr hc NS hbind cp hfr hbody ru hS hI (fun H' e => ht i _ (List.getElem?_eq_getElem hi') H' e _ fun p H2 hp e2 h2 => ⟨p, rfl, hp, e2, h2⟩) (fun y H' H2 ⟨p, _, _, e, _⟩ => e) ?_
    rintro kv y s' H' H'' I e n fs fi ⟨p, rfl, hp, e2, h2⟩ rv un hok J KJ' hS' hI'
    obtain rfl : kv = Value.ref p := rv
    obtain ⟨_, it2, r2, t2⟩ := hok p _ h2
    have hstp : hstar H' H'' p = some (.tup ((ks i).map V.int)) := hs_tup e2 h2
    refine kq _ s' KJ' ⟨⟨oI, hI', hI1, hI2⟩, ⟨oL, ?_, hL1⟩⟩ hS' ⟨p, it2.toArray, rfl, t2, by simpa using ints_of_vals r2, ?_, fun z => ?_, fun z => ?_, fun z => ?_⟩ ?_
    · have q1 := (I.hok l _ (e _ _ hl)).1
      have q2 := (J.hok l _ (hs_old (e _ _ hl))).1
      rw [hL] at q1
      cases q1
      exact q2
    · cases hq : Hf p with
      | none => rfl
      | some o => rw [e p o hq] at hp; cases hp
    · rw [z, un.free S _ hS fs.1 (by simp)] at h2; cases h2
    · rw [z, un.free It _ hI fi.1 (by simp)] at h2; cases h2
    · rw [J.stkFree p z] at hstp; cases hstp
    · rintro j kj ⟨a, items, rfl, ta, ia, a0, a1, a2, a3⟩
      cases hq : H' a with
      | none =>
        obtain ⟨oa, ho, rest⟩ := ta
        exact ⟨a, items, rfl, ⟨oa, un.keep a oa ho hq a3 (by simp), rest⟩, ia, a0, a1, a2, a3⟩
      | some oo =>
        rcases n a oo hq with z | ⟨ys, rfl⟩
        · rw [a0] at z; cases z
        · obtain ⟨_, ja, ra, tja⟩ := I.hok a _ hq
          have ei := tup_items ta tja
          subst ei
          have ey := ints_vals (by simpa using ia) ra
          subst ey
          obtain ⟨_, jb, rb, tjb⟩ := hok a _ (un.tups a _ hq)
          exact ⟨a, jb.toArray, rfl, tjb, by simpa using ints_of_vals rb, a0, a1, a2, a3⟩
  cmp := fun i j ki kj s Q E hJ ⟨a, ia, ea, ta, na, _⟩ ⟨b, ib, eb, tb, nb, _⟩ q => by
    subst ea eb
    exact HT.lt_tupInts ta tb na nb hr.units0 q
end

section
variable {X : Cx} {pins : List (Addr × Obj)} {σ : L2.St} {Hf : Hp} {f l It S c' : Addr} {pm ctv : Value} {od : Obj} {k : Nat} {params : Arguments} {body : Expr} {scope : Scope} {N fr : List Str} {js : List Nat} {kx : Str} {xs : List V} {its : List Value} {tb : TE}
theorem keyrunI {ks : Nat → Int} (hl : Hf l = some (.frz od (.lst xs))) (rx : Vals xs its) (hfS : f ≠ S) (hfI : f ≠ It) (hr : Room (k + 1) X.A.in1) (hc : Hf c' = some (CodeO c' (X.env.qual ++ "<lambda>"))) (NS : NScope N [kx] fr scope)
    (hbind : ∀ u : Value, bindArgs (PySem.W.kla_fn "<lambda>" (X.env.qual ++ "<lambda>") params body scope (cloFrom X.env.cells scope.names []) pm (.ref c') ctv) ⟨[u], []⟩ = pure [(kx, u)]) (cp : X.Ok → Caps X (cloFrom X.env.cells scope.names []) fr js) (hfr : f ∉ frs X.stack)
    (hbody : ∀ (s : Shared) (H : Hp), PE (ncx CX0 X.prog X.w X.K X.mg X.base N (lamF X params scope c') f X.A.in1 X.stack s H E0) body tb)
    (ht : ∀ i x, xs[i]? = some x → Ev tb (startF N [x] (js.map (slotAt σ))) Hf (.int (ks i))) :
    KeyRun X.prog X.w X.A.in1 (.ref f) .Gt S [It] (fun a b => b = a) its.toArray.size (fun i v => its.toArray[i]? = some v) (fun i s => s.heap.IsListIter It l i ∧ s.heap.IsList l its.toArray) (KJ X pins σ Hf f (lamO X params body scope pm c' ctv) S It) (KVi ks) (fun i j => decide (ks j < ks i)) where
  keep := fun s s' j m => j.keep hfS hfI m
  keepV := fun i kv s s' h m => h
  turn := fun i v s o Q E hi hP hJ hst hS kq => by
    have hlen := rx.length
    have hi' : i < xs.length := by rw [hlen]; simpa using hi
    obtain ⟨u, hu, ru⟩ := rx.get (List.getElem?_eq_getElem hi')
    obtain rfl : u = v := by
      have : its[i]? = some v := by simpa using hP
      exact Option.some.inj (hu.symm.trans this)
    obtain ⟨⟨oI, hI, hI1, hI2⟩, ⟨oL, hL, hL1⟩⟩ := hst
    refine key_core (R := fun y H' H2 => y = .int (ks i) ∧ Ex H' H2) hJ hr hc NS hbind cp hfr hbody ru hS hI (fun H' e => ht i _ (List.getElem?_eq_getElem hi') H' e _ fun H2 e2 => ⟨rfl, e2⟩) (fun y H' H2 ⟨_, e⟩ => e) ?_
    rintro kv y s' H' H'' I e n fs fi ⟨rfl, e2⟩ rv un hok J KJ' hS' hI'
    refine kq _ s' KJ' ⟨⟨oI, hI', hI1, hI2⟩, ⟨oL, ?_, hL1⟩⟩ hS' rv fun j kj h => h
    have q1 := (I.hok l _ (e _ _ hl)).1
    have q2 := (J.hok l _ (hs_old (e _ _ hl))).1
    rw [hL] at q1
    cases q1
    exact q2
  cmp := fun i j ki kj s Q E hJ ⟨t1, e1⟩ ⟨t2, e2⟩ q => by
    subst e1 e2
    exact gt_int q
end

/-- min(e, key=lambda x: body) -/
def tMinT (T : List (Addr × Str)) (N : List Str) (js : List Nat) (te tb : TE) : TE := fun σ H Q => te σ H fun x H1 => ∃ (l : Addr) (xs : List V) (ks : Nat → List Int), x = .ref l ∧ H1 l = some (.lst xs) ∧ 0 < xs.length ∧ Tabs T H1 ∧ ∀ (od : Obj) (H2 : Hp), ExtN H1 H2 → Tabs T H2 →
  (∀ i x, xs[i]? = some x → EvU tb (startF N [x] (js.map (slotAt σ))) (upd H2 l (.frz od (.lst xs))) ((ks i).map V.int)) ∧ ∀ (H3 : Hp) (y : V), Ex H2 H3 → xs[argBest (fun i j => HT.lexLt (ks i) (ks j)) (xs.length - 1)]? = some y → Q y H3
theorem pe_minT {X : Cx} {T : List (Addr × Str)} {c P : Addr} {k : Nat} {kx nk : Str} {N fr : List Str} {js : List Nat} {te tb : TE} {e : Expr} {params : Arguments} {body : Expr} {scope : Scope} {p lpos kpos pos : Pos} (TB : TabB X.base X.mg c P) (hcode : X.env.code = .ref c) (hmT : (P, X.env.qual ++ "<lambda>") ∈ T) (hu : ∀ p ∈ T, p.1 = P → p.2 = X.env.qual ++ "<lambda>")
    (hg : Gl X "min") (hm : X.mg "min" = none) (hr : Room (k + 2) X.A) (ha : PA X [e] (tCons te tNil)) (NS : NScope N [kx] fr scope) (hnd : ndefB X.env.scope scope fr = true) (hjs : js.map (fun j => X.N[j]?) = fr.map some)
    (hbody : ∀ (f c' : Addr) (s : Shared) (H : Hp), Room k (X.A.in1.deeper (envF (lamF X params scope c') f s.heap.objs.size)) → PE (ncx CX0 X.prog X.w X.K X.mg X.base N (lamF X params scope c') f X.A.in1 X.stack s H E0) body tb)
    (hdef : defaultsOf params X.env = ([], []) := by rfl)
    (hbind : ∀ (q : Str) (cl : List (Str × Addr)) (pm cv ctv u : Value), bindArgs (PySem.W.kla_fn "<lambda>" q params body scope cl pm cv ctv) ⟨[u], []⟩ = pure [(kx, u)] := by exact fun _ _ _ _ _ _ => rfl)
    (he : backTo pos (starEach [e] X.env) = (false, eval e X.env) :: backTo pos (starEach [] X.env) := by rfl) (hpl : (backTo pos (starEach [e] X.env)).any (·.1) = false := by rfl) (hnk : nk = Str.ofString "key" := by rfl) :
    PE X (.Call (.Name "min" p) [e] [⟨some nk, .Lambda params body scope lpos, kpos⟩] pos) (tMinT T N js te tb) := by
  subst hnk
  refine ⟨fun pins s σ H Q I h => ?_⟩
  refine wpAny_Call_Name_kw (ld_blt I hg hm PyProof.Rows.boot_min ?_)
  refine PyProof.Rows.callWith_kw (thn (ha.run pos pins s σ H (fun vs H1 => match vs with
    | [x] => ∃ (l : Addr) (xs : List V) (ks : Nat → List Int), x = .ref l ∧ H1 l = some (.lst xs) ∧ 0 < xs.length ∧ Tabs T H1 ∧ ∀ (od : Obj) (H2 : Hp), ExtN H1 H2 → Tabs T H2 →
      (∀ i x, xs[i]? = some x → EvU tb (startF N [x] (js.map (slotAt σ))) (upd H2 l (.frz od (.lst xs))) ((ks i).map V.int)) ∧ ∀ (H3 : Hp) (y : V), Ex H2 H3 → xs[argBest (fun i j => HT.lexLt (ks i) (ks j)) (xs.length - 1)]? = some y → Q y H3
    | _ => False) I h) fun us s1 hh => ?_) he hpl (by rfl) (by rfl)
  obtain ⟨vs, H1, I1, r1, q1⟩ := hh
  cases r1 with
  | nil => exact q1.elim
  | cons ru rn =>
    cases rn with
    | cons _ _ => exact q1.elim
    | nil =>
      obtain ⟨l, xs, ks, rfl, hl, hpos, hT, hk⟩ := q1
      obtain rfl := ru
      show wpAny _ _ (evalAll ((do let v ← eval (.Lambda params body scope lpos) X.env; standAt pos; pure v) :: [])) _ _ s1
      refine wpAny_evalAll_cons (wpAny_bind (lam_make2 I1 TB hcode hmT hu hT hdef (fun y hy e => (ndef_free hnd y hy e).elim (fun z => I1.ok.has _ (.inl z)) fun z => I1.ok.has _ (.inr z)) fun f c' pm ctv H2 s2 I2 eN T2 hf hfn hfr hco => wpAny_bind (wpAny_standAt (wpAny_pure (wpAny_evalAll_nil ?_)))))
      show wpAny _ _ (call (.builtin "min") [.ref l] [(Str.ofString "key", .ref f)]) _ _ s2
      refine call_min_walkK ?_
      have hl2 : H2 l = some (.lst xs) := eN l _ hl (fun ps z => nomatch z)
      obtain ⟨od, I3⟩ := I2.lock hl2 trivial
      have hlf : (upd H2 l (.frz od (.lst xs))) l = some (.frz od (.lst xs)) := upd_same
      have hfl : f ≠ l := fun z => by rw [z, hl2] at hfn; cases hfn
      have hff : (upd H2 l (.frz od (.lst xs))) f = none := by rw [upd_ne hfl]; exact hfn
      have hcf : (upd H2 l (.frz od (.lst xs))) c' = some (CodeO c' (X.env.qual ++ "<lambda>")) := by
        rw [upd_ne (fun z => by
          rw [z, hl2] at hco
          unfold CodeO at hco
          cases hco)]
        exact hco
      obtain ⟨hk1, hk2⟩ := hk od H2 eN T2
      have back : ∀ H3, Ex (upd H2 l (.frz od (.lst xs))) H3 → Ex H2 (upd H3 l (.lst xs)) := fun H3 e b o hb => by
        by_cases z : b = l
        · rw [z, hl2] at hb
          rw [z, upd_same]
          exact hb
        · rw [upd_ne z]
          exact e b o (by rw [upd_ne z]; exact hb)
      generalize upd H2 l (.frz od (.lst xs)) = Hf at I3 hlf hff hcf hk1 back
      obtain ⟨its, rx, pl, hz⟩ := I3.list (show SqL X.K Hf l xs from .inl (.inr ⟨od, hlf⟩))
      refine wpAny_pyIter_list pl.isList ?_
      have I4 : Inv X pins σ Hf { s2 with heap := s2.heap.push { cls := .type "list_iterator", data := .fields #[.ref l, .int 0 0] }, toks := s2.toks } := I3.kept fun b o e => Heap.get?_push_of_some _ e
      have hsz : (s2.heap.push { cls := .type "list_iterator", data := .fields #[.ref l, .int 0 0] }).objs.size = s2.heap.objs.size + 1 := Heap.size_push ..
      have hflt : f < s2.heap.objs.size := Heap.lt_size hf
      have hll : l < s2.heap.objs.size := by obtain ⟨o, ho, _⟩ := pl.isList; exact Heap.lt_size ho
      have hlen := rx.length
      refine ⟨s2.heap.objs.size, [s2.heap.objs.size, l], [s2.heap.objs.size], _, its.toArray.size, _, _, KJ X pins σ Hf f (lamO X params body scope pm c' ctv) (s2.heap.push { cls := .type "list_iterator", data := .fields #[.ref l, .int 0 0] }).objs.size s2.heap.objs.size, KVt X Hf (s2.heap.push { cls := .type "list_iterator", data := .fields #[.ref l, .int 0 0] }).objs.size s2.heap.objs.size ks, (fun i j => HT.lexLt (ks i) (ks j)), rfl,
        (Walks.list (A := X.A.in1) hr.hd s2.heap.objs.size l (Nat.ne_of_lt hll) its.toArray).toS, ⟨⟨_, Heap.get?_push_size _ rfl, rfl, rfl⟩, pl.isList.push _⟩, fun b hb => ?_, ?_, keyrunT hlf rx ?_ (Nat.ne_of_lt hflt) hr.in1 hcf NS (fun u => hbind _ _ _ _ _ u) (fun ok => Caps.made ok (ndef_free hnd) (ndef_fr hnd) hjs) hfr (fun s H => hbody f c' s H (hr.in1.deeper _)) hk1,
        ⟨Hf, I4, Ex.refl Hf, fun b o h => .inl h, I4.fpOk (Nat.le_refl _) (I4.hok.fresh (Nat.le_refl _)), I3.fpOk (Nat.le_refl _) (I3.hok.fresh (Nat.le_refl _)), hff, Heap.get?_push_of_some _ hf⟩, fun v s' hP hJ => ?_⟩
      · rcases List.mem_cons.mp hb with z | z
        · rw [z, hsz]; exact Nat.lt_succ_self _
        · rw [List.mem_singleton.mp z, hsz]; exact Nat.lt_succ_of_lt hll
      · show 0 < its.toArray.size
        rw [List.size_toArray, ← hlen]
        exact hpos
      · rw [hsz]
        exact Nat.ne_of_lt (Nat.lt_succ_of_lt hflt)
      · obtain ⟨H', I', e, _⟩ := hJ
        have J2 := I'.unlock (e l _ hlf) (I2.nofrz hl2 trivial)
        have hP : its.toArray[argBest (fun i j => HT.lexLt (ks i) (ks j)) (its.toArray.size - 1)]? = some v := hP
        rw [List.size_toArray, ← hlen, List.getElem?_toArray] at hP
        obtain ⟨y, hy⟩ : ∃ y, xs[argBest (fun i j => HT.lexLt (ks i) (ks j)) (xs.length - 1)]? = some y := ⟨_, List.getElem?_eq_getElem (Nat.lt_of_lt_of_eq (List.getElem?_eq_some_iff.mp hP).1 hlen.symm)⟩
        obtain ⟨u, hu', ru⟩ := rx.get hy
        rw [hP] at hu'
        cases hu'
        exact ⟨y, _, J2, ru, hk2 _ y (back _ e) hy⟩

/-- max(e, key=lambda x: body) -/
def tMaxI (T : List (Addr × Str)) (N : List Str) (js : List Nat) (te tb : TE) : TE := fun σ H Q => te σ H fun x H1 => ∃ (l : Addr) (xs : List V) (ks : Nat → Int), x = .ref l ∧ H1 l = some (.lst xs) ∧ 0 < xs.length ∧ Tabs T H1 ∧ ∀ (od : Obj) (H2 : Hp), ExtN H1 H2 → Tabs T H2 →
  (∀ i x, xs[i]? = some x → Ev tb (startF N [x] (js.map (slotAt σ))) (upd H2 l (.frz od (.lst xs))) (.int (ks i))) ∧ ∀ (H3 : Hp) (y : V), Ex H2 H3 → xs[argBest (fun i j => decide (ks j < ks i)) (xs.length - 1)]? = some y → Q y H3
theorem pe_maxI {X : Cx} {T : List (Addr × Str)} {c P : Addr} {k : Nat} {kx nk : Str} {N fr : List Str} {js : List Nat} {te tb : TE} {e : Expr} {params : Arguments} {body : Expr} {scope : Scope} {p lpos kpos pos : Pos} (TB : TabB X.base X.mg c P) (hcode : X.env.code = .ref c) (hmT : (P, X.env.qual ++ "<lambda>") ∈ T) (hu : ∀ p ∈ T, p.1 = P → p.2 = X.env.qual ++ "<lambda>")
    (hg : Gl X "max") (hm : X.mg "max" = none) (hr : Room (k + 2) X.A) (ha : PA X [e] (tCons te tNil)) (NS : NScope N [kx] fr scope) (hnd : ndefB X.env.scope scope fr = true) (hjs : js.map (fun j => X.N[j]?) = fr.map some)
    (hbody : ∀ (f c' : Addr) (s : Shared) (H : Hp), Room k (X.A.in1.deeper (envF (lamF X params scope c') f s.heap.objs.size)) → PE (ncx CX0 X.prog X.w X.K X.mg X.base N (lamF X params scope c') f X.A.in1 X.stack s H E0) body tb)
    (hdef : defaultsOf params X.env = ([], []) := by rfl)
    (hbind : ∀ (q : Str) (cl : List (Str × Addr)) (pm cv ctv u : Value), bindArgs (PySem.W.kla_fn "<lambda>" q params body scope cl pm cv ctv) ⟨[u], []⟩ = pure [(kx, u)] := by exact fun _ _ _ _ _ _ => rfl)
    (he : backTo pos (starEach [e] X.env) = (false, eval e X.env) :: backTo pos (starEach [] X.env) := by rfl) (hpl : (backTo pos (starEach [e] X.env)).any (·.1) = false := by rfl) (hnk : nk = Str.ofString "key" := by rfl) :
    PE X (.Call (.Name "max" p) [e] [⟨some nk, .Lambda params body scope lpos, kpos⟩] pos) (tMaxI T N js te tb) := by
  subst hnk
  refine ⟨fun pins s σ H Q I h => ?_⟩
  refine wpAny_Call_Name_kw (ld_blt I hg hm PyProof.Rows.boot_max ?_)
  refine PyProof.Rows.callWith_kw (thn (ha.run pos pins s σ H (fun vs H1 => match vs with
    | [x] => ∃ (l : Addr) (xs : List V) (ks : Nat → Int), x = .ref l ∧ H1 l = some (.lst xs) ∧ 0 < xs.length ∧ Tabs T H1 ∧ ∀ (od : Obj) (H2 : Hp), ExtN H1 H2 → Tabs T H2 →
      (∀ i x, xs[i]? = some x → Ev tb (startF N [x] (js.map (slotAt σ))) (upd H2 l (.frz od (.lst xs))) (.int (ks i))) ∧ ∀ (H3 : Hp) (y : V), Ex H2 H3 → xs[argBest (fun i j => decide (ks j < ks i)) (xs.length - 1)]? = some y → Q y H3
    | _ => False) I h) fun us s1 hh => ?_) he hpl (by rfl) (by rfl)
  obtain ⟨vs, H1, I1, r1, q1⟩ := hh
  cases r1 with
  | nil => exact q1.elim
  | cons ru rn =>
    cases rn with
    | cons _ _ => exact q1.elim
    | nil =>
      obtain ⟨l, xs, ks, rfl, hl, hpos, hT, hk⟩ := q1
      obtain rfl := ru
      show wpAny _ _ (evalAll ((do let v ← eval (.Lambda params body scope lpos) X.env; standAt pos; pure v) :: [])) _ _ s1
      refine wpAny_evalAll_cons (wpAny_bind (lam_make2 I1 TB hcode hmT hu hT hdef (fun y hy e => (ndef_free hnd y hy e).elim (fun z => I1.ok.has _ (.inl z)) fun z => I1.ok.has _ (.inr z)) fun f c' pm ctv H2 s2 I2 eN T2 hf hfn hfr hco => wpAny_bind (wpAny_standAt (wpAny_pure (wpAny_evalAll_nil ?_)))))
      show wpAny _ _ (call (.builtin "max") [.ref l] [(Str.ofString "key", .ref f)]) _ _ s2
      refine call_max_walkK ?_
      have hl2 : H2 l = some (.lst xs) := eN l _ hl (fun ps z => nomatch z)
      obtain ⟨od, I3⟩ := I2.lock hl2 trivial
      have hlf : (upd H2 l (.frz od (.lst xs))) l = some (.frz od (.lst xs)) := upd_same
      have hfl : f ≠ l := fun z => by rw [z, hl2] at hfn; cases hfn
      have hff : (upd H2 l (.frz od (.lst xs))) f = none := by rw [upd_ne hfl]; exact hfn
      have hcf : (upd H2 l (.frz od (.lst xs))) c' = some (CodeO c' (X.env.qual ++ "<lambda>")) := by
        rw [upd_ne (fun z => by
          rw [z, hl2] at hco
          unfold CodeO at hco
          cases hco)]
        exact hco
      obtain ⟨hk1, hk2⟩ := hk od H2 eN T2
      have back : ∀ H3, Ex (upd H2 l (.frz od (.lst xs))) H3 → Ex H2 (upd H3 l (.lst xs)) := fun H3 e b o hb => by
        by_cases z : b = l
        · rw [z, hl2] at hb
          rw [z, upd_same]
          exact hb
        · rw [upd_ne z]
          exact e b o (by rw [upd_ne z]; exact hb)
      generalize upd H2 l (.frz od (.lst xs)) = Hf at I3 hlf hff hcf hk1 back
      obtain ⟨its, rx, pl, hz⟩ := I3.list (show SqL X.K Hf l xs from .inl (.inr ⟨od, hlf⟩))
      refine wpAny_pyIter_list pl.isList ?_
      have I4 : Inv X pins σ Hf { s2 with heap := s2.heap.push { cls := .type "list_iterator", data := .fields #[.ref l, .int 0 0] }, toks := s2.toks } := I3.kept fun b o e => Heap.get?_push_of_some _ e
      have hsz : (s2.heap.push { cls := .type "list_iterator", data := .fields #[.ref l, .int 0 0] }).objs.size = s2.heap.objs.size + 1 := Heap.size_push ..
      have hflt : f < s2.heap.objs.size := Heap.lt_size hf
      have hll : l < s2.heap.objs.size := by obtain ⟨o, ho, _⟩ := pl.isList; exact Heap.lt_size ho
      have hlen := rx.length
      refine ⟨s2.heap.objs.size, [s2.heap.objs.size, l], [s2.heap.objs.size], _, its.toArray.size, _, _, KJ X pins σ Hf f (lamO X params body scope pm c' ctv) (s2.heap.push { cls := .type "list_iterator", data := .fields #[.ref l, .int 0 0] }).objs.size s2.heap.objs.size, KVi ks, (fun i j => decide (ks j < ks i)), rfl,
        (Walks.list (A := X.A.in1) hr.hd s2.heap.objs.size l (Nat.ne_of_lt hll) its.toArray).toS, ⟨⟨_, Heap.get?_push_size _ rfl, rfl, rfl⟩, pl.isList.push _⟩, fun b hb => ?_, ?_, keyrunI hlf rx ?_ (Nat.ne_of_lt hflt) hr.in1 hcf NS (fun u => hbind _ _ _ _ _ u) (fun ok => Caps.made ok (ndef_free hnd) (ndef_fr hnd) hjs) hfr (fun s H => hbody f c' s H (hr.in1.deeper _)) hk1,
        ⟨Hf, I4, Ex.refl Hf, fun b o h => .inl h, I4.fpOk (Nat.le_refl _) (I4.hok.fresh (Nat.le_refl _)), I3.fpOk (Nat.le_refl _) (I3.hok.fresh (Nat.le_refl _)), hff, Heap.get?_push_of_some _ hf⟩, fun v s' hP hJ => ?_⟩
      · rcases List.mem_cons.mp hb with z | z
        · rw [z, hsz]; exact Nat.lt_succ_self _
        · rw [List.mem_singleton.mp z, hsz]; exact Nat.lt_succ_of_lt hll
      · show 0 < its.toArray.size
        rw [List.size_toArray, ← hlen]
        exact hpos
      · rw [hsz]
        exact Nat.ne_of_lt (Nat.lt_succ_of_lt hflt)
      · obtain ⟨H', I', e, _⟩ := hJ
        have J2 := I'.unlock (e l _ hlf) (I2.nofrz hl2 trivial)
        have hP : its.toArray[argBest (fun i j => decide (ks j < ks i)) (its.toArray.size - 1)]? = some v := hP
        rw [List.size_toArray, ← hlen, List.getElem?_toArray] at hP
        obtain ⟨y, hy⟩ : ∃ y, xs[argBest (fun i j => decide (ks j < ks i)) (xs.length - 1)]? = some y := ⟨_, List.getElem?_eq_getElem (Nat.lt_of_lt_of_eq (List.getElem?_eq_some_iff.mp hP).1 hlen.symm)⟩
        obtain ⟨u, hu', ru⟩ := rx.get hy
        rw [hP] at hu'
        cases hu'
        exact ⟨y, _, J2, ru, hk2 _ y (back _ e) hy⟩

end Su
namespace Su
theorem exN_l {H H' : Hp} {p : Addr} {xs : List V} (e : LamX.ExtN H H') (h : H p = some (.lst xs)) : H' p = some (.lst xs) := e _ _ h fun _ z => nomatch z
theorem exN_of {H H' : Hp} (e : Ex H H') : LamX.ExtN H H' := LamX.ExtN.of e
theorem exN_up {H0 H : Hp} {p : Addr} {o : HO} (e : LamX.ExtN H0 H) (hp : ∀ o, H0 p = some o → ∃ ps, o = .tbl ps) : LamX.ExtN H0 (upd H p o) := fun b o' h n => by
  by_cases z : b = p
  · rw [z] at h
    obtain ⟨ps, rfl⟩ := hp _ h
    exact absurd rfl (n ps)
  · rw [upd_ne z]
    exact e b o' h n
theorem tabs_upd {T : List (Addr × Str)} {H : Hp} {p : Addr} {xs ys : List V} (t : LamX.Tabs T H) (hp : H p = some (.lst xs)) : LamX.Tabs T (upd H p (.lst ys)) := fun q hq => by
  obtain ⟨ps, h1, h2, h3⟩ := t q hq
  have n1 : q.1 ≠ p := fun z => by rw [z, hp] at h1; cases h1
  refine ⟨ps, by rw [upd_ne n1]; exact h1, h2, fun pos cv hc => ?_⟩
  obtain ⟨c, e1, e2⟩ := h3 pos cv hc
  refine ⟨c, e1, ?_⟩
  rw [upd_ne (fun z => by rw [z, hp] at e2; unfold LamX.CodeO at e2; cases e2)]
  exact e2

end Su
namespace Su
open LamX NdefX
/-! ### sorted(a dict of texts, key=a lambda that gives whole numbers) -/
def keyInt (p : Str × Int) : PyData := .int p.2
/-- the names by their numbers -/
def sortedBy (nms : List Str) (ks : List Int) : List Str := ((nms.zip ks).mergeSort (PySem.W.dataLe false keyInt)).map (·.1)
section
variable {X : Cx} {pins : List (Addr × Obj)} {σ : L2.St} {Hf : Hp}
/-- what stands ahead of turn i of the keys' loop: the keys made so far lie in a list that nobody else knows, the list that is sorted is empty -/
def SJ (X : Cx) (pins : List (Addr × Obj)) (σ : L2.St) (Hf : Hp) (f : Addr) (fo : Obj) (a kS : Addr) (e1 : Nat) (ks : List Int) (i : Nat) (s : Shared) : Prop :=
  ∃ (H' : Hp) (kA : Array Value) (e : Nat), Inv X pins σ H' s ∧ Ex Hf H' ∧ FpOk X pins H' kS ∧ FpOk X pins H' a ∧ H' f = none ∧ s.heap.get? f = some fo ∧ s.heap.get? kS = some (seqObj "list" kA e) ∧ s.heap.get? a = some (seqObj "list" #[] e1) ∧ IntsAre kA.toList (ks.take i)
theorem ints_snoc {n : Int} {t : Tok} : ∀ {vs : List Value} {ns : List Int}, IntsAre vs ns → IntsAre (vs ++ [.int n t]) (ns ++ [n])
  | _, _, .nil => .cons n t .nil
  | _, _, .cons m u h => .cons m u (ints_snoc h)
theorem ints_reads {h : Heap} : ∀ {vs : List Value} {ns : List Int}, IntsAre vs ns → PySem.W.EachIs (fun v d => ∃ as, Reads h v d as) vs (ns.map PyData.int)
  | _, _, .nil => .nil
  | _, _, .cons n t r => .cons ⟨_, .int n t⟩ (ints_reads r)
theorem ints_length : ∀ {vs : List Value} {ns : List Int}, IntsAre vs ns → vs.length = ns.length
  | _, _, .nil => rfl
  | _, _, .cons _ _ r => congrArg (· + 1) (ints_length r)
theorem names_each : ∀ {nms : List Str} {ks : List Int} {vs : List Value}, Vals (nms.map V.str) vs → nms.length = ks.length → PySem.W.EachIs (fun v (p : Str × Int) => ∃ t, v = .str p.1 t) vs (nms.zip ks)
  | [], [], _, .nil, _ => .nil
  | n :: r, k :: ks, _, .cons ⟨t, e⟩ rr, h => .cons ⟨t, e⟩ (names_each rr (Nat.succ.inj h))
theorem each_names : ∀ {ps : List (Str × Int)} {vs : List Value}, PySem.W.EachIs (fun v (p : Str × Int) => ∃ t, v = .str p.1 t) vs ps → Vals ((ps.map (·.1)).map V.str) vs
  | [], _, .nil => .nil
  | _ :: _, _, .cons ⟨t, e⟩ r => .cons ⟨t, e⟩ (each_names r)
theorem sj_turn {k : Nat} {f c' a kS : Addr} {e1 : Nat} {ks : List Int} {i : Nat} {pm ctv : Value} {params : Arguments} {body : Expr} {scope : Scope} {N fr : List Str} {js : List Nat} {kx nm : Str} {v : Value} {n : Int} {tb : TE} {s : Shared} {Q : Value → Shared → Prop} {E : Value → Shared → Prop}
    (j : SJ X pins σ Hf f (lamO X params body scope pm c' ctv) a kS e1 ks i s) (hr : Room (k + 3) X.A) (hc : Hf c' = some (CodeO c' (X.env.qual ++ "<lambda>"))) (NS : NScope N [kx] fr scope)
    (hbind : ∀ u : Value, bindArgs (PySem.W.kla_fn "<lambda>" (X.env.qual ++ "<lambda>") params body scope (cloFrom X.env.cells scope.names []) pm (.ref c') ctv) ⟨[u], []⟩ = pure [(kx, u)]) (cp : X.Ok → Caps X (cloFrom X.env.cells scope.names []) fr js) (hfr : f ∉ frs X.stack)
    (hbody : ∀ (s : Shared) (H : Hp), PE (ncx CX0 X.prog X.w X.K X.mg X.base N (lamF X params scope c') f X.A.in1.in1 X.stack s H E0) body tb) (r : L2.RelV (.str nm) v) (hn : ks[i]? = some n)
    (ht : Ev tb (startF N [.str nm] (js.map (slotAt σ))) Hf (.int n))
    (kk : ∀ s' kA e t, SJ X pins σ Hf f (lamO X params body scope pm c' ctv) a kS e1 ks i s' → s'.heap.get? kS = some (seqObj "list" kA e) → IntsAre kA.toList (ks.take i) → Q (.int n t) s') : wpAny (model X.prog X.w) X.A.in1.in1 (call (.ref f) [v]) Q E s := by
  obtain ⟨H', kA, e, Iv, ex, fk, fa, hf, ho, gk, ga, hi⟩ := j
  have called := lam_call (k := k) Iv Iv.env0.in1.in1 (hr.in1.in1) ho (ex _ _ hc) NS (hbind v) (cells_of Iv (cp Iv.ok)) r (hbody s H') (ht H' ex (fun y H2 => y = .int n ∧ Ex H' H2) fun H2 e2 => ⟨rfl, e2⟩)
  refine wpAny_call (codeAny_mono called fun res s' got => ?_)
  match res, got with
  | .ok (.ret u), ⟨_, H2, os, bare, un, hok, rv, rfl, e2⟩ =>
    obtain ⟨t, rfl⟩ := rv
    have J : Inv X pins σ H2 s' := Iv.call' os un hok bare fun b z => absurd z (by simp)
    have away : ∀ {b}, FpOk X pins H' b → b ∉ frs X.stack := fun {b} h z => (List.mem_cons.mp (Iv.stkSub b z)).elim h.2.1 h.2.2.1
    have gk' := un.keep kS _ gk fk.1 (away fk) (by simp)
    exact kk s' kA e t ⟨H2, kA, e, J, ex.trans e2, ⟨un.free kS _ gk fk.1 (by simp), fk.2⟩, ⟨un.free a _ ga fa.1 (by simp), fa.2⟩, un.free f _ ho hf (by simp), un.keep f _ ho hf hfr (by simp), gk', un.keep a _ ga fa.1 (away fa) (by simp), hi⟩ gk' hi
theorem sj_push {f a kS : Addr} {fo : Obj} {e1 e : Nat} {ks : List Int} {i : Nat} {n : Int} {t : Tok} {kA : Array Value} {s : Shared} (j : SJ X pins σ Hf f fo a kS e1 ks i s) (hka : kS ≠ a) (hkf : kS ≠ f) (gk : s.heap.get? kS = some (seqObj "list" kA e)) (hi : IntsAre kA.toList (ks.take i)) (hn : ks[i]? = some n) :
    SJ X pins σ Hf f fo a kS e1 ks (i + 1) { s with heap := s.heap.update kS (Obj.mapSeq (·.push (.int n t))) } := by
  obtain ⟨H', kA', e', Iv, ex, fk, fa, hf, ho, gk', ga, -⟩ := j
  have same := Heap.SameBut.update s.heap kS (Obj.mapSeq (·.push (.int n t)))
  refine ⟨H', kA.push (.int n t), _, Iv.turnedL (t' := s.toks) (ch := [kS]) (fun b o hb eo => (same.2 b (fun z => hb (List.mem_singleton.mpr z))).trans eo) (fun b hb => List.mem_singleton.mp hb ▸ fk), ex, fk, fa, hf, (same.2 f hkf.symm).trans ho, get?_update_seq gk _, (same.2 a hka.symm).trans ga, ?_⟩
  rw [Array.toList_push, List.take_add_one, hn]
  exact ints_snoc hi
/-- the sort of a list that only we know, from its keys' loop on -/
theorem sj_sort {k : Nat} {f c' a kS : Addr} {e1 : Nat} {nms : List Str} {ks : List Int} {pm ctv : Value} {params : Arguments} {body : Expr} {scope : Scope} {N fr : List Str} {js : List Nat} {kx : Str} {vs : List Value} {tb : TE} {s : Shared} {P : PySem.Fin → Shared → Prop} {E : Value → Shared → Prop}
    (j : SJ X pins σ Hf f (lamO X params body scope pm c' ctv) a kS e1 ks 0 s) (hka : kS ≠ a) (hkf : kS ≠ f) (hr : Room (k + 3) X.A) (hc : Hf c' = some (CodeO c' (X.env.qual ++ "<lambda>"))) (NS : NScope N [kx] fr scope)
    (hbind : ∀ u : Value, bindArgs (PySem.W.kla_fn "<lambda>" (X.env.qual ++ "<lambda>") params body scope (cloFrom X.env.cells scope.names []) pm (.ref c') ctv) ⟨[u], []⟩ = pure [(kx, u)]) (cp : X.Ok → Caps X (cloFrom X.env.cells scope.names []) fr js) (hfr : f ∉ frs X.stack)
    (hbody : ∀ (s : Shared) (H : Hp), PE (ncx CX0 X.prog X.w X.K X.mg X.base N (lamF X params scope c') f X.A.in1.in1 X.stack s H E0) body tb) (rv : Vals (nms.map V.str) vs) (hlen : nms.length = ks.length) (hz : nms.length ≤ 1000)
    (ht : ∀ (i : Nat) (nm : Str) (n : Int), nms[i]? = some nm → ks[i]? = some n → Ev tb (startF N [.str nm] (js.map (slotAt σ))) Hf (.int n))
    (fin : ∀ H' s', Inv X pins σ (upd H' a (.lst ((sortedBy nms ks).map V.str))) s' → Ex Hf H' → H' a = none → P (.done (.ret .none)) s') :
    wpAny (model X.prog X.w) X.A.in1.in1 (ksk_rest a (.ref f) false vs.toArray e1 (.ref kS)) P E s := by
  have lv := rv.length
  rw [List.length_map] at lv
  have h100 : vs.length ≤ sizeLine := Nat.le_trans (show vs.length ≤ 1000 by omega) (by decide)
  unfold ksk_rest
  refine wpAny_bind (wpAny_rule ?_)
  rw [← Array.forIn_toList]
  simp only [List.toList_toArray]
  refine wpAny_bind (ksk_fold (SJ X pins σ Hf f (lamO X params body scope pm c' ctv) a kS e1 ks) vs 0 s j (fun i v s1 hv j1 => ?_) fun s1 j1 => ?_)
  · rw [Nat.zero_add] at j1 ⊢
    obtain ⟨nm, hnm, rn⟩ : ∃ nm, nms[i]? = some nm ∧ L2.RelV (.str nm) v := by
      have hi : i < nms.length := by have := (List.getElem?_eq_some_iff.mp hv).1; omega
      obtain ⟨u, hu, ru⟩ := rv.get (i := i) (x := .str nms[i]) (by rw [List.getElem?_map, List.getElem?_eq_getElem hi]; rfl)
      rw [hv] at hu
      cases hu
      exact ⟨_, List.getElem?_eq_getElem hi, ru⟩
    have hi : i < nms.length := (List.getElem?_eq_some_iff.mp hnm).1
    have hn : ks[i]? = some (ks[i]'(by omega)) := List.getElem?_eq_getElem (by omega)
    refine wpAny_bind (wpAny_attempt (sj_turn j1 hr hc NS hbind cp hfr hbody rn hn (ht i _ _ hnm hn) fun s2 kA e t j2 gk hi2 => ?_))
    have hsz : kA.size ≤ 1000 := by
      have := ints_length hi2
      rw [Array.length_toList, List.length_take] at this
      omega
    refine wpAny_bind (listUpdate_at gk rfl ?_ (Nat.le_trans hsz (by decide)) (by rw [Array.size_push]; exact Nat.le_trans (show kA.size + 1 ≤ 1001 by omega) (by decide)))
    exact wpAny_pure ⟨rfl, sj_push j2 hka hkf gk hi2 hn⟩
  · obtain ⟨H', kA, e, Iv, ex, fk, fa, hf, ho, gk, ga, hi⟩ := j1
    rw [Nat.zero_add, List.take_of_length_le (by omega)] at hi
    refine wpAny_bind (listItems_at gk rfl ?_)
    have lk := ints_length hi
    rw [Array.length_toList] at lk
    have rd := ints_reads (h := s1.heap) hi
    have hal : PySem.W.AllAlike (ks.map PyData.int) := fun x hx y hy => by
      obtain ⟨n, _, rfl⟩ := List.mem_map.mp hx
      obtain ⟨m, _, rfl⟩ := List.mem_map.mp hy
      rfl
    have hso : PySem.W.Sortable (ks.map PyData.int) := .inr fun d hd => by
      obtain ⟨n, _, rfl⟩ := List.mem_map.mp hd
      exact ⟨nofun, nofun⟩
    refine PySem.W.keyH_end (κ := PySem.W.dataKind s1.heap (ks.map PyData.int)) (h₁ := PySem.W.hideAll s1.heap [a, kS]) (fun b o _ eo => PySem.W.of_hideAll _ eo) (PySem.W.hideAll_none _ (by simp)) gk ga hka (PySem.W.SortsAt.data rd hal hso fun d hd => ?_) (by omega) h100 fun h' tk c kp g => ?_
    · obtain ⟨n, _, rfl⟩ := List.mem_map.mp hd
      have hu := hr.in1.in1.units
      have h0 : (PyData.int n).depth = 0 := by simp [PyData.depth]
      rw [h0]
      exact Nat.lt_of_le_of_lt (Nat.add_le_add_left (Nat.zero_le 64) _) hu
    · have hk : (nms.zip ks).map keyInt = ks.map PyData.int := by
        rw [show keyInt = PyData.int ∘ Prod.snd from rfl, ← List.map_map, List.map_snd_zip (by omega)]
      have ko : PySem.W.KeyedOut false ((nms.zip ks).map keyInt) vs (PySem.W.sortVals (PySem.W.dataKind s1.heap (ks.map PyData.int)) false kA.toList vs) := by
        rw [hk]
        exact ⟨s1.heap, kA.toList, hal, rfl, rd⟩
      have each := each_names (PySem.W.keyedOut_each keyInt ko (names_each rv hlen))
      generalize PySem.W.sortVals (PySem.W.dataKind s1.heap (ks.map PyData.int)) false kA.toList vs = out at g each
      have kept : ∀ b o, b ≠ a → b ≠ kS → s1.heap.get? b = some o → h'.get? b = some o := fun b o ba bk eo => kp b o ba (PySem.W.hideAll_get _ eo (by simp [ba, bk]))
      have keptC : ∀ b o, b ∉ [a, kS] → s1.heap.get? b = some o → h'.get? b = some o := fun b o hb eo => kept b o (fun z => hb (by simp [z])) (fun z => hb (by simp [z])) eo
      have J : Inv X pins σ H' { s1 with heap := h', toks := tk } := Iv.turnedL (ch := [a, kS]) keptC fun b hb => by
        rcases List.mem_cons.mp hb with z | z
        · exact z ▸ fa
        · exact List.mem_singleton.mp z ▸ fk
      have long : ((sortedBy nms ks).map V.str).length ≤ sizeLine := by
        unfold sortedBy
        rw [List.length_map, List.length_map, List.length_mergeSort, List.length_zip]
        exact Nat.le_trans (show min nms.length ks.length ≤ 1000 by omega) (by decide)
      have hok : HOk X.prog X.w (upd H' a (.lst ((sortedBy nms ks).map V.str))) h' := J.hok.laidN (fun _ _ eo => eo) fa.1 ⟨long, out, c, each, g⟩
      have oth : ∀ b o, H' b = some o → upd H' a (.lst ((sortedBy nms ks).map V.str)) b = some o := fun b o hb => by
        rw [upd_ne (fun z => by rw [z, fa.1] at hb; cases hb)]
        exact hb
      refine fin H' _ (Iv.call' (ch := [a, kS]) rfl ⟨fun b o eo _ _ hx => keptC b o hx eo, fun b o eo _ _ hx => ⟨o.slots, keptC b o hx eo⟩, fun b o _ hn hx => ?_, fun b o eo hx => ⟨o, keptC b o hx eo⟩, fun b xs hb => oth b _ hb, fun b o u hb => oth b _ hb, fun b ps hb => ⟨#[], by rw [oth b _ hb]; simp⟩⟩ hok Iv.bare fun b hb => ?_) ex fa.1
      · rw [upd_ne (fun z => hx (by simp [z]))]
        exact hn
      · rcases List.mem_cons.mp hb with z | z
        · rw [z]; exact ⟨fa.2.2.2.1, fa.2.1, fa.2.2.2.2.1, fa.2.2.2.2.2⟩
        · rw [List.mem_singleton.mp z]; exact ⟨fk.2.2.2.1, fk.2.1, fk.2.2.2.2.1, fk.2.2.2.2.2⟩
/-- sorted(e, key=lambda x: body), e a dict of texts -/
def tSortK (T : List (Addr × Str)) (N : List Str) (js : List Nat) (te tb : TE) : TE := fun σ H Q => te σ H fun x H1 => ∃ (d : Addr) (kvs : List (Key × V)) (nms : List Str) (ks : List Int), x = .ref d ∧ H1 d = some (.dK kvs) ∧ kvs.map (·.1) = nms.map Sum.inr ∧ nms.length = ks.length ∧ nms.length ≤ 1000 ∧ Tabs T H1 ∧ ∀ H2, ExtN H1 H2 → Tabs T H2 →
  (∀ (i : Nat) (nm : Str) (n : Int), nms[i]? = some nm → ks[i]? = some n → Ev tb (startF N [.str nm] (js.map (slotAt σ))) H2 (.int n)) ∧ ∀ H3 p, Ex H2 H3 → H3 p = none → Q (.ref p) (upd H3 p (.lst ((sortedBy nms ks).map V.str)))
theorem pe_sortK {X : Cx} {T : List (Addr × Str)} {c P : Addr} {k : Nat} {kx nk : Str} {N fr : List Str} {js : List Nat} {te tb : TE} {e : Expr} {params : Arguments} {body : Expr} {scope : Scope} {p lpos kpos pos : Pos} (TB : TabB X.base X.mg c P) (calm : X.calm = true) (hcode : X.env.code = .ref c) (hmT : (P, X.env.qual ++ "<lambda>") ∈ T) (hu : ∀ p ∈ T, p.1 = P → p.2 = X.env.qual ++ "<lambda>")
    (hg : Gl X "sorted") (hm : X.mg "sorted" = none) (hr : Room (k + 4) X.A) (ha : PA X [e] (tCons te tNil)) (NS : NScope N [kx] fr scope) (hnd : ndefB X.env.scope scope fr = true) (hjs : js.map (fun j => X.N[j]?) = fr.map some)
    (hbody : ∀ (f c' : Addr) (s : Shared) (H : Hp), Room k (X.A.in1.in1.deeper (envF (lamF X params scope c') f s.heap.objs.size)) → PE (ncx CX0 X.prog X.w X.K X.mg X.base N (lamF X params scope c') f X.A.in1.in1 X.stack s H E0) body tb)
    (hdef : defaultsOf params X.env = ([], []) := by rfl)
    (hbind : ∀ (q : Str) (cl : List (Str × Addr)) (pm cv ctv u : Value), bindArgs (PySem.W.kla_fn "<lambda>" q params body scope cl pm cv ctv) ⟨[u], []⟩ = pure [(kx, u)] := by exact fun _ _ _ _ _ _ => rfl)
    (he : backTo pos (starEach [e] X.env) = (false, eval e X.env) :: backTo pos (starEach [] X.env) := by rfl) (hpl : (backTo pos (starEach [e] X.env)).any (·.1) = false := by rfl) (hnk : nk = Str.ofString "key" := by rfl) :
    PE X (.Call (.Name "sorted" p) [e] [⟨some nk, .Lambda params body scope lpos, kpos⟩] pos) (tSortK T N js te tb) := by
  subst hnk
  refine ⟨fun pins s σ H Q Iv want => ?_⟩
  refine wpAny_Call_Name_kw (ld_blt Iv hg hm PyProof.Rows.boot_sorted ?_)
  refine PyProof.Rows.callWith_kw (thn (ha.run pos pins s σ H (fun vs H1 => match vs with
    | [x] => ∃ (d : Addr) (kvs : List (Key × V)) (nms : List Str) (ks : List Int), x = .ref d ∧ H1 d = some (.dK kvs) ∧ kvs.map (·.1) = nms.map Sum.inr ∧ nms.length = ks.length ∧ nms.length ≤ 1000 ∧ Tabs T H1 ∧ ∀ H2, ExtN H1 H2 → Tabs T H2 →
      (∀ (i : Nat) (nm : Str) (n : Int), nms[i]? = some nm → ks[i]? = some n → Ev tb (startF N [.str nm] (js.map (slotAt σ))) H2 (.int n)) ∧ ∀ H3 p, Ex H2 H3 → H3 p = none → Q (.ref p) (upd H3 p (.lst ((sortedBy nms ks).map V.str)))
    | _ => False) Iv want) fun us s1 got => ?_) he hpl (by rfl) (by rfl)
  obtain ⟨vs, H1, I1, vals, q1⟩ := got
  have one : ∃ x v, vs = [x] ∧ us = [v] ∧ L2.RelV x v := by
    match vs, us, vals, q1 with
    | [_], [_], .cons r .nil, _ => exact ⟨_, _, rfl, rfl, r⟩
  obtain ⟨x, v, rfl, rfl, rel⟩ := one
  obtain ⟨d, kvs, nms, ks, rfl, hd, hkeys, hlen, h1000, hT, next⟩ := q1
  cases rel
  · skip
    show wpAny _ _ (evalAll ((do let v ← eval (.Lambda params body scope lpos) X.env; standAt pos; pure v) :: [])) _ _ s1
    refine wpAny_evalAll_cons (wpAny_bind (lam_make2 I1 TB hcode hmT hu hT hdef (fun y hy e => (ndef_free hnd y hy e).elim (fun z => I1.ok.has _ (.inl z)) fun z => I1.ok.has _ (.inr z)) fun f c' pm ctv H2 s2 I2 eN T2 hf hfn hfr hco => wpAny_bind (wpAny_standAt (wpAny_pure (wpAny_evalAll_nil ?_)))))
    show wpAny _ _ (call (.builtin "sorted") [.ref d] [(Str.ofString "key", .ref f)]) _ _ s2
    have hd2 : H2 d = some (.dK kvs) := eN d _ hd (fun ps z => nomatch z)
    obtain ⟨body1, fin1⟩ := next H2 eN T2
    refine call_function_entry_kw PyProof.Rows.kind_sorted PyProof.Rows.plain_sorted PyProof.Rows.entry_sorted (ksk_s1 _ _) ?_
    unfold Builtin.«sorted»
    refine wpAny_bind (m := checkCount "sorted" 1 1 _) (wpAny_pure ?_)
    obtain ⟨-, low, ws, kv, dd⟩ := dk_of I2.hok hd2
    obtain ⟨ep, hat⟩ := dd.dictAt
    have keysW : ws.map (·.1) = nms.map Sum.inr := kv.keys.symm.trans hkeys
    have lw : ws.length = nms.length := by simpa using congrArg List.length keysW
    refine wpAny_bind (PySem.W.kdu_collect (A := X.A.in1) (PySem.W.kdl_dict (knd := mixKind X.prog X.w) (kvs := ws) (ep := ep) low) (I2.ok.hd calm) hat (by rw [lw]; exact Nat.le_trans h1000 (by decide)) fun h3 t3 acc kp3 items => ?_)
    have lacc : acc.toList.length = nms.length := by rw [Array.length_toList, items.1, lw]
    have strs1 : StrsAre acc.toList nms := strs_at lacc fun j v e => by
      obtain ⟨key, x, e1, e2⟩ := items.2 j v (by rw [← Array.getElem?_toList]; exact e)
      have e3 : (nms.map Sum.inr)[j]? = some key := by rw [← keysW, List.getElem?_map, e1]; rfl
      rw [List.getElem?_map] at e3
      obtain ⟨y, hy, rfl⟩ := Option.map_eq_some_iff.mp e3
      obtain ⟨t, ev⟩ := Value.isStrOf_shape (x := y) (v := v) e2
      exact ⟨y, t, hy, ev⟩
    have named : Vals (nms.map V.str) acc.toList := vals_of_strs strs1
    have I3 : Inv X pins σ H2 { s2 with heap := h3, toks := t3 } := I2.kept kp3
    refine wpAny_bind (wpAny_newList ?_ (by rw [lacc]; exact Nat.le_trans h1000 (by decide)))
    generalize ha0 : h3.objs.size = a
    have gA : (h3.push (seqObj "list" acc.toList.toArray 0)).get? a = some (seqObj "list" acc.toList.toArray 0) := ha0 ▸ Heap.get?_push_size _ rfl
    have I4 : Inv X pins σ H2 { s2 with heap := h3.push (seqObj "list" acc.toList.toArray 0), toks := t3 } := I3.kept (t' := t3) fun b o eo => Heap.get?_push_of_some _ eo
    have fA : FpOk X pins H2 a := I3.fpOk (Nat.le_of_eq ha0) (I3.hok.fresh (Nat.le_of_eq ha0))
    have fF : (h3.push (seqObj "list" acc.toList.toArray 0)).get? f = _ := Heap.get?_push_of_some _ (kp3 f _ hf)
    have hfa : f ≠ a := by
      have := Heap.lt_size (kp3 f _ hf)
      exact Nat.ne_of_lt (ha0 ▸ this)
    show wpAny _ _ _ _ _ { s2 with heap := h3.push (seqObj "list" acc.toList.toArray 0), toks := t3 }
    generalize hg4 : h3.push (seqObj "list" acc.toList.toArray 0) = h4 at gA I4 fF ⊢
    refine wpAny_bind (wpAny_holding (wpAny_call_entry_kw PyProof.Rows.slot_list_sort ⟨_, gA, rfl⟩ PyProof.Rows.entry_list_sort ?_ (ksk_l1 _ _)))
    show wpAny (model X.prog X.w) X.A.in1.in1 (ksk_tree a (.ref f) false) _ _ _
    unfold ksk_tree
    refine wpAny_bind (listItems_at gA rfl ?_)
    refine wpAny_bind (listUpdate_at gA rfl ?_ (by rw [List.size_toArray, lacc]; exact Nat.le_trans h1000 (by decide)) (Nat.zero_le _))
    obtain ⟨e1, gE⟩ : ∃ e1, (h4.update a (Obj.mapSeq fun _ => (#[] : Array Value))).get? a = some (seqObj "list" #[] e1) := ⟨_, get?_update_seq gA fun _ => #[]⟩
    have sb := Heap.SameBut.update h4 a (Obj.mapSeq fun _ => (#[] : Array Value))
    have I5 : Inv X pins σ H2 { s2 with heap := h4.update a (Obj.mapSeq fun _ => (#[] : Array Value)), toks := t3 } := Inv.turnedL (s := { s2 with heap := h4, toks := t3 }) (t' := t3) I4 (ch := [a]) (fun b o hb eo => (sb.2 b (fun z => hb (List.mem_singleton.mpr z))).trans eo) fun b hb => List.mem_singleton.mp hb ▸ fA
    have fF5 := (sb.2 f hfa).trans fF
    generalize h4.update a (Obj.mapSeq fun _ => (#[] : Array Value)) = h5 at gE I5 fF5 ⊢
    refine wpAny_bind (seqEpoch_at (s := { s2 with heap := h5, toks := t3 }) gE rfl ?_)
    refine wpAny_bind (wpAny_newTuple ?_ (by rw [List.toList_toArray, lacc]; exact Nat.le_trans h1000 (by decide)))
    have I6 : Inv X pins σ H2 { s2 with heap := h5.push (seqObj "tuple" acc.toList.toArray 0), toks := t3 } := I5.kept (t' := t3) fun b o eo => Heap.get?_push_of_some _ eo
    refine wpAny_bind (wpAny_newList ?_ (Nat.zero_le _))
    refine wpAny_holding ?_
    have gE6 : (h5.push (seqObj "tuple" acc.toList.toArray 0)).get? a = some (seqObj "list" #[] e1) := Heap.get?_push_of_some _ gE
    have fF6 : (h5.push (seqObj "tuple" acc.toList.toArray 0)).get? f = _ := Heap.get?_push_of_some _ fF5
    show wpAny (model X.prog X.w) X.A.in1.in1 (ksk_rest a (.ref f) false acc.toList.toArray e1 (.ref (h5.push (seqObj "tuple" acc.toList.toArray 0)).objs.size)) _ _ { s2 with heap := (h5.push (seqObj "tuple" acc.toList.toArray 0)).push (seqObj "list" #[] 0), toks := t3 }
    generalize h5.push (seqObj "tuple" acc.toList.toArray 0) = h6 at I6 gE6 fF6 ⊢
    have I7 : Inv X pins σ H2 { s2 with heap := h6.push (seqObj "list" #[] 0), toks := t3 } := I6.kept (t' := t3) fun b o eo => Heap.get?_push_of_some _ eo
    refine sj_sort (k := k) (ks := ks) ⟨H2, #[], 0, I7, Ex.refl _, I6.fpOk (Nat.le_refl _) (I6.hok.fresh (Nat.le_refl _)), fA, hfn, Heap.get?_push_of_some _ fF6, Heap.get?_push_size _ rfl, Heap.get?_push_of_some _ gE6, by rw [List.take_zero]; exact .nil⟩
      (Nat.ne_of_gt (Heap.lt_size gE6)) (Nat.ne_of_gt (Heap.lt_size fF6)) (hr.mono (by omega)) hco NS (fun u => hbind _ _ _ _ _ u) (fun ok => Caps.made ok (ndef_free hnd) (ndef_fr hnd) hjs) hfr (fun s H => hbody f c' s H ((hr.in1.in1.deeper _).mono (by omega))) named hlen h1000 body1 fun H' s' I' ex' na => ?_
    exact ⟨_, rfl, wpAny_pure ⟨_, rfl, .ref a, _, I', rfl, fin1 H' a ex' na⟩⟩
end

end Su
namespace Su
/-! ### list(d.values()); a def out of a slot, called with a starred argument -/
def tListVals (td : TE) : TE := fun σ H Q => td σ H fun x H1 => ∃ (a : Addr) (kvs : List (Key × V)), x = .ref a ∧ H1 a = some (.dK kvs) ∧ ∀ p, H1 p = none → Q (.ref p) (upd H1 p (.lst (kvs.map (·.2))))
theorem pe_listVals {X : Cx} {o : Expr} {td : TE} {p apos mpos pos : Pos} (calm : X.calm = true) (hg : Gl X "list") (hm : X.mg "list" = none) (from_ : PE X o td) (base : attributeBase o "values" X.env (eval o X.env) = eval o X.env := by rfl) (line : (apos.endLine == mpos.line) = true := by rfl)
    (plain : starEach [Expr.Call (.Attribute o "values" apos) [] [] mpos] X.env = [(false, eval (Expr.Call (.Attribute o "values" apos) [] [] mpos) X.env)] := by rfl) :
    PE X (.Call (.Name "list" p) [.Call (.Attribute o "values" apos) [] [] mpos] [] pos) (tListVals td) where
  run pins s σ H Q Iv want := by
    refine wpAny_Call_Name_kw (ld_blt Iv hg hm (u := .type "list") (by decide +kernel) ?_ (by decide) (by decide))
    rw [plain]
    refine PySem.callWith_type1 (wpAny_Call_method0_late base line (thn (from_.run pins s σ H _ Iv want) fun v s1 got => ?_))
    obtain ⟨_, H1, I1, rel, a, kvs, rfl, hd, next⟩ := got
    cases rel
    obtain ⟨short, low, ws, kv, isd⟩ := dk_of I1.hok hd
    obtain ⟨ep, at1⟩ := isd.dictAt
    obtain ⟨ob, _, there, ⟨isDict, noDict, _⟩, _⟩ := id at1
    refine ⟨"dict", "dict.values", F.plainAttrs_dict, F.slot_dict_values, F.type_dict_values, ⟨ob, there, isDict⟩, fun b e => ⟨ob, Value.ref.inj e ▸ there, noDict⟩, Calls.callWith_builtin rfl (PySem.evalArgs_none ?_)⟩
    refine call_meetsIn F.slot_dict_values ⟨ob, there, isDict⟩ F.entry_dict_values (F.args_dict_values_1 _) (meets_dict_values (mixKind X.prog X.w) a low) ⟨⟨ws, isd⟩, ?_⟩
    have grown : ∀ b u, s1.heap.get? b = some u → (s1.heap.push { cls := .type "dict_values", data := .fields #[.ref a] }).get? b = some u := fun b u e => Heap.get?_push_of_some _ e
    refine PySem.W.kdl_call (PySem.W.kdl_values (knd := mixKind X.prog X.w) (d := a) (kvs := ws) (ep := ep)) (I1.ok.hd calm) ⟨⟨_, Heap.get?_push_size _ rfl, rfl, rfl⟩, at1.keep grown⟩ (by rw [← KV.length kv]; exact short) fun h2 tk acc c2 kp gL items => ?_
    have vals : Vals (kvs.map (·.2)) acc.toList := by
      refine vals_of_at ?_ fun j x u hx hu => ?_
      · rw [List.length_map]
        exact (KV.length kv).trans (items.1.symm.trans Array.length_toList.symm)
      · obtain ⟨key, hk⟩ := items.2 j u (by rw [← Array.getElem?_toList]; exact hu)
        obtain ⟨x', h1, h2⟩ := KV.at' kv hk
        rw [List.getElem?_map, h1] at hx
        cases hx
        exact h2
    refine ⟨.ref _, _, I1.laid (t' := tk) (fun b u e => kp b u (grown b u e)) (by rw [Heap.size_push]; exact Nat.le_succ _) (show ObjOk X.prog X.w _ _ _ (.lst (kvs.map (·.2))) from ⟨by rw [List.length_map]; exact short, acc.toList, c2, vals, by rw [Array.toArray_toList]; exact gL⟩), rfl, next _ (I1.hok.fresh (by rw [Heap.size_push]; exact Nat.le_succ _))⟩
def tCallV (i : Nat) (S : Addr → Sp → Prop) (E : XK) (t : TA) : TE := fun σ H Q => ∃ f sp, σ[i]? = some (some (.ref f)) ∧ S f sp ∧ t σ H fun vs H1 => sp vs H1 Q E
theorem pe_callV {X : Cx} {CX : CXT} {k i : Nat} {E : XK} {x : Str} {p pos : Pos} {e : Expr} {es : List Expr} {t : TA} {S : Addr → Sp → Prop} (fam : ∀ f sp, S f sp → FnR X.prog X.w X.K X.mg X.base CX k f sp ∧ PySem.W.keepIn X.K (.ref f) = true) (hr : Room k X.A) (named : X.N[i]? = some x) (vis : Vis X.env.scope x) (out : Passes CX X E) (args : PA X (e :: es) t)
    (notdebug : (x == ("__debug__" : Str)) = false := by decide) (notdict : (x == ("__classdict__" : Str)) = false := by decide)
    (first : starEach (e :: es) X.env = (false, eval e X.env) :: starEach es X.env := by rfl) (starred : (backTo pos (starEach es X.env)).any (·.1) = true := by rfl) : PE X (.Call (.Name x p) (e :: es) [] pos) (tCallV i S E t) where
  run pins s σ H Q Iv want := by
    obtain ⟨f, sp, slot, known, want⟩ := want
    obtain ⟨F, keep⟩ := fam f sp known
    refine wpAny_Call_Name_kw (thn ((pe_var (pos := p) named vis notdebug notdict).run pins s σ H (fun v H1 => v = .ref f ∧ H1 = H) Iv ⟨.ref f, slot, rfl, rfl⟩) fun u s1 got => ?_)
    obtain ⟨_, _, I1, rel, rfl, rfl⟩ := got
    cases rel
    exact PySem.W.callWith_S2 (h₀ := X.base) I1.ok.mod.kin keep (thn (args.run pos pins s1 σ _ _ I1 want) fun us s2 ⟨_, _, I2, r2, q⟩ => ⟨I2.kIn, wpAny_call (run_fnR F hr out I2 r2 q)⟩) first starred

end Su
namespace Su
/-! ### dicts with texts as keys, evaluated -/
section
variable {K : PySem.W.Frag} {σ : L2.St} {H : Hp} {td ty tv te : TE} {d : Addr} {kvs : List (Key × V)} {k : Key} {v : V} {D : Ends} {tz : TS}
theorem ev_dget (h1 : Ev td σ H (.ref d)) (h2 : Ev ty σ H (kV k)) (hd : H d = some (.dK kvs)) (hv : valV kvs k = some v) : Ev (tDGet td ty) σ H v := fun H1 e Q q =>
  h1 H1 e _ fun H2 e2 => h2 H2 (e.trans e2) _ fun H3 e3 => ⟨d, v, rfl, hv ▸ DGet.k (((e.trans e2).trans e3) _ _ hd), q H3 (e2.trans e3)⟩
theorem ev_dgetO (h1 : Ev td σ H (.ref d)) (h2 : Ev ty σ H (kV k)) (hd : H d = some (.dK kvs)) : Ev (tDGet1 td ty) σ H ((valV kvs k).getD .non) := fun H1 e Q q =>
  h1 H1 e _ fun H2 e2 => ⟨d, rfl, .inl ⟨kvs, .inl ((e.trans e2) _ _ hd)⟩, h2 H2 (e.trans e2) _ fun H3 e3 => ⟨_, DGet.k (((e.trans e2).trans e3) _ _ hd), q H3 (e2.trans e3)⟩⟩
theorem ev_din (h2 : Ev ty σ H (kV k)) (h1 : Ev td σ H (.ref d)) (hd : H d = some (.dK kvs)) : Ev (tDIn ty td) σ H (.bl (valV kvs k).isSome) := fun H1 e Q q =>
  h2 H1 e _ fun H2 e2 => h1 H2 (e.trans e2) _ fun H3 e3 => ⟨d, _, rfl, DGet.k (((e.trans e2).trans e3) _ _ hd), q H3 (e2.trans e3)⟩
theorem ev_dnin (h2 : Ev ty σ H (kV k)) (h1 : Ev td σ H (.ref d)) (hd : H d = some (.dK kvs)) : Ev (tDNotIn ty td) σ H (.bl (!(valV kvs k).isSome)) := fun H1 e Q q =>
  h2 H1 e _ fun H2 e2 => h1 H2 (e.trans e2) _ fun H3 e3 => ⟨d, _, rfl, DGet.k (((e.trans e2).trans e3) _ _ hd), q H3 (e2.trans e3)⟩
theorem s_dput (h0 : Ev tv σ H v) (h1 : Ev td σ H (.ref d)) (h2 : Ev ty σ H (kV k)) (hd : H d = some (.dK kvs)) (hl : kvs.length < 100000) (n : ∀ H1, Ex H H1 → D.nx σ (upd H1 d (.dK (putK kvs k v)))) : sDPut td ty tv D σ H :=
  h0 H (Ex.refl _) _ fun H1 e1 => h1 H1 e1 _ fun H2 e2 => h2 H2 (e1.trans e2) _ fun H3 e3 => ⟨d, _, rfl, .inl ⟨kvs, k, ((e1.trans e2).trans e3) _ _ hd, rfl, sz_lt hl, rfl⟩, n H3 ((e1.trans e2).trans e3)⟩
theorem q_dput (h0 : Ev tv σ H v) (h1 : Ev td σ H (.ref d)) (h2 : Ev ty σ H (kV k)) (hd : H d = some (.dK kvs)) (hl : kvs.length < 100000) (n : ∀ H1, Ex H H1 → tz D σ (upd H1 d (.dK (putK kvs k v)))) : tSeq (sDPut td ty tv) tz D σ H := s_dput (D := { D with nx := tz D }) h0 h1 h2 hd hl n
theorem s_ddel (h1 : Ev td σ H (.ref d)) (h2 : Ev ty σ H (kV k)) (hd : H d = some (.dK kvs)) (hv : (valV kvs k).isSome = true) (n : ∀ H1, Ex H H1 → D.nx σ (upd H1 d (.dK (dropK kvs k)))) : sDDel td ty D σ H :=
  h1 H (Ex.refl _) _ fun H1 e1 => h2 H1 e1 _ fun H2 e2 => ⟨d, kvs, k, rfl, (e1.trans e2) _ _ hd, rfl, hv, n H2 (e1.trans e2)⟩
theorem el_dkeys (h : Ev te σ H (.ref d)) (hd : H d = some (.dK kvs)) : EvL (tCB rListD (tCons te tNil)) σ H (kvs.map fun kv => kV kv.1) := fun H1 e Q q =>
  h H1 e _ fun H2 e2 => ⟨d, kvs, rfl, (e.trans e2) _ _ hd, fun p hp => q p _ (fresh_back e2 hp) (e2.trans (Ex.new hp)) upd_same⟩
theorem el_dvals (h : Ev te σ H (.ref d)) (hd : H d = some (.dK kvs)) : EvL (tListVals te) σ H (kvs.map (·.2)) := fun H1 e Q q =>
  h H1 e _ fun H2 e2 => ⟨d, kvs, rfl, (e.trans e2) _ _ hd, fun p hp => q p _ (fresh_back e2 hp) (e2.trans (Ex.new hp)) upd_same⟩
/-- a new dict -/
def EvK (te : TE) (σ : L2.St) (H : Hp) (kvs : List (Key × V)) : Prop := ∀ H1, Ex H H1 → ∀ Q : VK, (∀ p H2, H1 p = none → Ex H1 H2 → H2 p = some (.dK kvs) → Q (.ref p) H2) → te σ H1 Q
theorem q_asgK {i : Nat} (h : EvK te σ H kvs) (n : ∀ p H1, H p = none → Ex H H1 → H1 p = some (.dK kvs) → tz D (σ.set i (some (.ref p))) H1) : tSeq (tAsg te (gName i)) tz D σ H := h H (Ex.refl _) _ n
theorem ek_new : EvK tDNewK σ H [] := fun H1 _ Q q p hp => q p _ hp (Ex.new hp) upd_same
end

end Su
namespace Su
/-! ### a dict of the module, with texts as keys, that is only read -/
def FitsD : List DictEntry → List (Str × V) → Prop
  | [], [] => True
  | e :: r, kv :: s => (∃ t, e.key = .str kv.1 t) ∧ RelV kv.2 e.val ∧ FitsD r s
  | _, _ => False
def ModD (K : PySem.W.Frag) (P : Params) (d : Addr) (kvs : List (Str × V)) : Prop :=
  (d == sysModules) = false ∧ ∃ es n, K.lookup d = some ⟨.type "dict", none, .dict es n, #[]⟩ ∧ PySem.W.KeysLit P es.toList ∧ FitsD es.toList kvs
theorem modd_mk {K : PySem.W.Frag} {P : Params} {d : Addr} {kvs : List (Str × V)} {es : Array DictEntry} {n : Nat} (l : K.lookup d = some ⟨.type "dict", none, .dict es n, #[]⟩) (k : PySem.W.KeysLit P es.toList) (f : FitsD es.toList kvs) (o : (d == sysModules) = false) : ModD K P d kvs := ⟨o, es, n, l, k, f⟩
def getD' (kvs : List (Str × V)) (z : Str) : Option V := (kvs.find? fun kv => kv.1 == z).map (·.2)
theorem fits_find {z : Str} : ∀ {es : List DictEntry} {kvs : List (Str × V)}, FitsD es kvs →
    (match es.find? (·.key.isStr z), getD' kvs z with
      | some e, some v => RelV v e.val
      | none, none => True
      | _, _ => False) ∧ es.any (·.refKey) = false
  | [], [], _ => ⟨trivial, rfl⟩
  | e :: r, kv :: s, h => by
    obtain ⟨⟨t, hk⟩, hv, hr⟩ := h
    have ih := fits_find (z := z) hr
    have hs : e.key.isStr z = (kv.1 == z) := by rw [hk]; rfl
    refine ⟨?_, ?_⟩
    · unfold getD'
      rw [List.find?_cons, List.find?_cons, hs]
      cases hb : (kv.1 == z) with
      | true => exact hv
      | false => exact ih.1
    · rw [List.any_cons, ih.2, Bool.or_false]
      unfold DictEntry.refKey
      rw [hk]
      try rfl
  | [], _ :: _, h => h.elim
  | _ :: _, [], h => h.elim
theorem ModD.nsIn {K : PySem.W.Frag} {P : Params} {d : Addr} {kvs : List (Str × V)} (D : ModD K P d kvs) (z : Str) :
    match getD' kvs z with
      | some v => ∃ u, PySem.W.nsIn K d z = some (some u) ∧ RelV v u
      | none => PySem.W.nsIn K d z = some none := by
  obtain ⟨_, es, n, hl, _, hf⟩ := D
  have h := fits_find (z := z) hf
  unfold PySem.W.nsIn
  rw [hl]
  dsimp only
  cases hg : getD' kvs z with
  | none =>
    have h1 := h.1
    rw [hg] at h1
    cases hfe : es.toList.find? (·.key.isStr z) with
    | none => dsimp only; rw [h.2]; rfl
    | some e => rw [hfe] at h1; exact h1.elim
  | some v =>
    have h1 := h.1
    rw [hg] at h1
    cases hfe : es.toList.find? (·.key.isStr z) with
    | none => rw [hfe] at h1; exact h1.elim
    | some e => rw [hfe] at h1; exact ⟨_, rfl, h1⟩
section
variable {X : Cx} {d : Addr} {kvs : List (Str × V)}
theorem ModD.kd {K : PySem.W.Frag} {w : World} (D : ModD K w.params d kvs) : ∃ es n, KDict K w d es n := by
  obtain ⟨h0, es, n, hl, hk, _⟩ := D
  exact ⟨es, n, hl, hk, h0⟩
def rInMd (d : Addr) (kvs : List (Str × V)) (neg : Bool) : R2 := fun x y H Q => ∃ z : Str, x = .str z ∧ y = .ref d ∧ Q (.bl (if neg then !(getD' kvs z).isSome else (getD' kvs z).isSome)) H
theorem op_in_md (D : ModD X.K X.w.params d kvs) : OpR X (compareOp .In) (rInMd d kvs false) := by
  obtain ⟨es, n, KD⟩ := D.kd
  intro pins s σ H x y v u Q I rx ry h
  obtain ⟨z, rfl, rfl, q⟩ := h
  have hn := D.nsIn z
  refine op_in_kd KD pins s σ H _ _ v u Q I rx ry ⟨z, ?_⟩
  cases hg : getD' kvs z with
  | none => rw [hg] at hn q; exact ⟨none, rfl, rfl, hn, q⟩
  | some v => rw [hg] at hn q; obtain ⟨u, hu, _⟩ := hn; exact ⟨some u, rfl, rfl, hu, q⟩
theorem op_notIn_md {K : PySem.W.Frag} (hK : X.K = K) (D : ModD K X.w.params d kvs) : OpR X (compareOp .NotIn) (rInMd d kvs true) := by
  subst hK
  obtain ⟨es, n, KD⟩ := D.kd
  intro pins s σ H x y v u Q I rx ry h
  obtain ⟨z, rfl, rfl, q⟩ := h
  have hn := D.nsIn z
  refine op_notIn_kd KD pins s σ H _ _ v u Q I rx ry ⟨z, ?_⟩
  cases hg : getD' kvs z with
  | none => rw [hg] at hn q; exact ⟨none, rfl, rfl, hn, q⟩
  | some v => rw [hg] at hn q; obtain ⟨u, hu, _⟩ := hn; exact ⟨some u, rfl, rfl, hu, q⟩
def rIxMd (d : Addr) (kvs : List (Str × V)) : R2 := fun x y H Q => ∃ z v, x = .ref d ∧ y = .str z ∧ getD' kvs z = some v ∧ Q v H
theorem ix_md {K : PySem.W.Frag} (hK : X.K = K) (D : ModD K X.w.params d kvs) : IxR X (rIxMd d kvs) := by
  subst hK
  have D' := D
  obtain ⟨_, es, n, hl, hk, _⟩ := D'
  intro value slice pins s σ H x y v u Q I rx ry h hs
  obtain ⟨z, r, rfl, rfl, hg, q⟩ := h
  have hn := D.nsIn z
  rw [hg] at hn
  obtain ⟨u0, hu, ru⟩ := hn
  exact ix_kdict value slice pins s σ H _ _ v u Q I rx ry ⟨d, z, r, rfl, rfl, ⟨es, n, u0, hl, hk, hu, ru⟩, q⟩ hs
theorem rv_niMd {H : Hp} {z : Str} : RV (rInMd d kvs true) (.str z) (.ref d) H (.bl (!(getD' kvs z).isSome)) := fun H1 _ _ q => ⟨z, rfl, rfl, q H1 (Ex.refl _)⟩
theorem rv_inMd {H : Hp} {z : Str} : RV (rInMd d kvs false) (.str z) (.ref d) H (.bl (getD' kvs z).isSome) := fun H1 _ _ q => ⟨z, rfl, rfl, q H1 (Ex.refl _)⟩
theorem rv_ixMd {H : Hp} {z : Str} {v : V} (h : getD' kvs z = some v) : RV (rIxMd d kvs) (.ref d) (.str z) H v := fun H1 _ _ q => ⟨z, v, rfl, rfl, h, q H1 (Ex.refl _)⟩
end

end Su
namespace Su
/-! ### zip(a list, a text): over the library's zip of any two walks (WalksT.zipD2) -/
section
open Evl
def ItzS (K : PySem.W.Frag) (a : Addr) (z0 : Str) : It :=
  ⟨fun i H => ∃ (xs : List V) (x : V) (c : Nat), SqL K H a xs ∧ xs[i]? = some x ∧ z0.cps[i]? = some c,
    fun i H v H' => ∃ T x c, v = .ref T ∧ H T = none ∧ H' = upd H T (.tup [x, .str ⟨#[c]⟩]) ∧ (∀ xs, SqL K H a xs → xs[i]? = some x) ∧ z0.cps[i]? = some c,
    fun i H => ∃ xs : List V, SqL K H a xs ∧ i = xs.length ∧ xs.length = z0.cps.size⟩
/-- the five cells of such a zip at its turn -/
def ZipS (tk : Tok) (z0 : Str) (z TI TO i1 i2 a : Addr) (i : Nat) (h : Heap) : Prop :=
  IsZip h z TI TO .none ∧ IsTupOf2 h TI (.ref i1) (.ref i2) ∧ (∃ x y, IsTupOf2 h TO x y) ∧ h.IsListIter i1 a i ∧ h.IsStrIter i2 (strIterType z0) z0 tk i
abbrev zipCells (z TI TO i1 i2 : Addr) : List Addr := [z, TI, TO, i1, i2]
theorem wr_cells {z TI TO i1 i2 b : Addr} (n : b ∉ zipCells z TI TO i1 i2) : b ∉ [z, TO, i1, i2] := fun hm => n (by
  simp only [zipCells, List.mem_cons, List.not_mem_nil, or_false] at hm ⊢
  rcases hm with e | e | e | e <;> simp [e])
theorem turn_zipS {P : Program} {w : World} {K : PySem.W.Frag} {elts : List Expr} {kk : Nat} {tpos : Pos} {a z TI TO i1 i2 : Addr} {z0 : Str} {tk : Tok} (D : ZipSep2 z TI TO i1 i2 [i1, a] [i2]) (ne1 : a ≠ i1) (neT : a ≠ TO) (nei : a ≠ i2) (nez : a ≠ z) :
    Turn P w K (.Tuple elts kk tpos) (ItzS K a z0) (zipCells z TI TO i1 i2) z (ZipS tk z0 z TI TO i1 i2 a) := by
  have naw : a ∉ [z, TO, i1, i2] := by simp [nez, neT, ne1, nei]
  have live : ∀ i h, ZipS tk z0 z TI TO i1 i2 a i h → ∀ c ∈ zipCells z TI TO i1 i2, ∃ o : Obj, h.get? c = some o ∧ ∀ v, o.data ≠ .cell v := fun i h hs => by
    obtain ⟨s1, s2, ⟨_, _, s3⟩, ⟨_, s4, _, k4⟩, ⟨_, s5, _, k5⟩⟩ := hs
    simp only [zipCells, List.forall_mem_cons]
    exact ⟨⟨_, s1, nofun⟩, ⟨_, s2, nofun⟩, ⟨_, s3, nofun⟩, ⟨_, s4, fun v e => by rw [k4] at e; cases e⟩, ⟨_, s5, fun v e => by rw [k5] at e; cases e⟩, fun _ hc => nomatch hc⟩
  refine ⟨List.mem_cons_self, live, fun i h h' hs keep => ?_, ?_, ?_, fun A i s Q E hs q => wpAny_pyIter_zip hs.1 q⟩
  · have kp : ∀ c ∈ zipCells z TI TO i1 i2, ∀ o, h.get? c = some o → h'.get? c = some o := keep
    simp only [zipCells, List.forall_mem_cons] at kp
    obtain ⟨s1, s2, ⟨x, y, s3⟩, s4, ⟨o5, s5, r5⟩⟩ := hs
    exact ⟨kp.1 _ s1, kp.2.1 _ s2, ⟨x, y, kp.2.2.1 _ s3⟩, s4.at kp.2.2.2.1, ⟨o5, kp.2.2.2.2.1 _ s5, r5⟩⟩
  · rintro X rfl rfl rfl calm i pins s σ H E Iv free ⟨s1, s2, s3, s4, s5⟩ ⟨xs, x, c, hq, hx, hc⟩
    obtain ⟨vs, rel, isl, -⟩ := Iv.list hq
    obtain ⟨u, hu, rx⟩ := rel.get hx
    have W := WalksT.zipD2 D (Draws.list (prog := X.prog) (w := X.w) (A := X.A.in1) (Iv.ok.hd calm) i1 a ne1 vs.toArray) (Draws.text (prog := X.prog) (w := X.w) (A := X.A.in1) (Iv.ok.hd calm) i2 z0 tk)
    have b1 : i < vs.toArray.size := by have := (List.getElem?_eq_some_iff.mp hu).1; simpa using this
    have b2 : i < z0.cps.size := (Array.getElem?_eq_some_iff.mp hc).1
    refine W.item i s _ _ (Nat.lt_min.mpr ⟨b1, b2⟩) ⟨s1, s2, s3, ⟨s4, isl.isList⟩, s5⟩ fun T vals h1 tk1 hv newT isT mid kp1 => ?_
    obtain ⟨v1, v2, hv1, ⟨c', t2, hc', rfl⟩, rfl⟩ := hv
    rw [show (vs.toArray)[i]? = some u from by simpa using hu] at hv1
    rw [hc] at hc'
    cases hv1
    cases hc'
    refine ⟨_, rfl, W.go elts kk tpos i T _ _ _ mid fun h2 st2 kp2 => ?_⟩
    have apT := W.apart i T h1 mid
    obtain ⟨oT, gT, cT, nT, dT⟩ := isT
    have both : ∀ b o, b ∉ zipCells z TI TO i1 i2 → s.heap.get? b = some o → h2.get? b = some o := fun b o nb e => kp2 b o (wr_cells nb) (kp1 b o (wr_cells nb) e)
    refine ⟨.ref T, upd H T (.tup [x, .str ⟨#[c]⟩]), Iv.turnedNew both free newT ⟨by show 2 ≤ sizeLine; decide, [u, .str ⟨#[c]⟩ t2], .cons rx (.cons ⟨t2, rfl⟩ .nil), oT, kp2 T _ apT gT, cT, nT, dT⟩, rfl,
      ⟨T, x, c, rfl, Iv.hok.fresh newT, rfl, fun ys hy => Iv.list_inj hy hq ▸ hx, hc⟩, ⟨st2.1, st2.2.1, st2.2.2.1, st2.2.2.2.1.1, st2.2.2.2.2⟩, fun b hb => ?_⟩
    have bT : b ≠ T := by
      obtain ⟨o, ho, _⟩ := live i s.heap ⟨s1, s2, s3, s4, s5⟩ b hb
      exact Nat.ne_of_lt (Nat.lt_of_lt_of_le (Heap.lt_size ho) newT)
    exact (upd_ne bT).trans (free b hb).1
  · rintro X rfl rfl rfl calm i pins s σ H E Iv free ⟨s1, s2, s3, s4, s5⟩ ⟨xs, hq, rfl, hl⟩
    obtain ⟨vs, rel, isl, -⟩ := Iv.list hq
    have W := WalksT.zipD2 D (Draws.list (prog := X.prog) (w := X.w) (A := X.A.in1) (Iv.ok.hd calm) i1 a ne1 vs.toArray) (Draws.text (prog := X.prog) (w := X.w) (A := X.A.in1) (Iv.ok.hd calm) i2 z0 tk)
    have len := rel.length
    have hmin : min vs.toArray.size z0.cps.size = xs.length := by
      rw [← hl, List.size_toArray, ← len]
      exact Nat.min_self _
    have st : _ := (⟨s1, s2, s3, ⟨s4, isl.isList⟩, s5⟩ : IsZip s.heap z TI TO .none ∧ IsTupOf2 s.heap TI (.ref i1) (.ref i2) ∧ (∃ x y, IsTupOf2 s.heap TO x y) ∧ (s.heap.IsListIter i1 a xs.length ∧ s.heap.IsList a vs.toArray) ∧ s.heap.IsStrIter i2 (strIterType z0) z0 tk xs.length)
    exact W.done s _ _ (by rw [hmin]; exact st) fun h1 tk1 kp => ⟨rfl, Iv.turnedL (fun b o nb e => kp b o (wr_cells nb) e) free⟩
def iZipS (K : PySem.W.Frag) (ta : TA) : TI := fun σ H R => ta σ H fun vs H1 => ∃ a z0 xs, vs = [.ref a, .str z0] ∧ SqL K H1 a xs ∧ R (ItzS K a z0) H1
theorem pi_zipS {X : Cx} {e e2 : Expr} {ta : TA} {p pos tpos : Pos} {elts : List Expr} {kk : Nat} (hg : Gl X "zip") (hm : X.mg "zip" = none) (args : PA X [e, e2] ta)
    (plain : starEach [e, e2] X.env = (false, eval e X.env) :: starEach [e2] X.env := by rfl) (nostar : (backTo pos (starEach [e2] X.env)).any (·.1) = false := by rfl) : PI X (.Tuple elts kk tpos) (.Call (.Name "zip" p) [e, e2] [] pos) (iZipS X.K ta) where
  run pins s σ H R Iv want := by
    refine Call_ (ld_blt Iv hg hm PyProof.Rows.boot_zip (PyProof.Rows.callWith_type1 (thn (args.run pos pins s σ H _ Iv want) fun us s1 got => ?_) plain nostar))
    obtain ⟨_, H1, I1, vals, a, z0, xs, rfl, hq, r⟩ := got
    cases vals with
    | cons v1 vals =>
      cases vals with
      | cons v2 vals =>
        cases vals
        cases v1
        obtain ⟨tk, rfl⟩ := v2
        obtain ⟨vs, -, isl, -⟩ := I1.list hq
        generalize hn : s1.heap.objs.size = n
        have old : a < n := hn ▸ isl.lt
        have far : ∀ k : Nat, a ≠ n + k := fun k => Nat.ne_of_lt (Nat.lt_of_lt_of_le old (Nat.le_add_right n k))
        have two : ∀ j k : Nat, j ≠ k → n + j ≠ n + k := fun j k h e => h (Nat.add_left_cancel e)
        have new : ∀ k : Nat, FpOk X pins H1 (n + k) := fun k => I1.fpOk (hn ▸ Nat.le_add_right _ k) (I1.hok.fresh (hn ▸ Nat.le_add_right _ k))
        refine zip_begins2 (begins_list a vs.toArray) (begins_text z0 tk) isl.isList trivial fun h' gz gI gO g1 g2 _ kp => wpAny_pyIter_zip gz ?_
        rw [hn] at gz gI gO g1 g2
        have sep : ZipSep2 (n + 4) (n + 2) (n + 3) (n + 0) (n + 1) [n + 0, a] [n + 1] := by
          have one : ∀ {b c : Addr}, b ≠ c → b ∉ [c] := fun h hm => h (List.mem_singleton.mp hm)
          have pair : ∀ {b c d : Addr}, b ≠ c → b ≠ d → b ∉ [c, d] := fun h1 h2 hm => (List.mem_cons.mp hm).elim h1 fun hm => h2 (List.mem_singleton.mp hm)
          exact ⟨two 2 4 (by decide), two 3 4 (by decide), two 2 3 (by decide), two 2 0 (by decide), List.mem_cons_self, pair (two 4 0 (by decide)) (far 4).symm, pair (two 3 0 (by decide)) (far 3).symm, two 2 1 (by decide), List.mem_cons_self, one (two 4 1 (by decide)), one (two 3 1 (by decide)), one (two 0 1 (by decide)), pair (two 1 0 (by decide)) (far 1).symm⟩
        rw [hn]
        refine ⟨n + 4, zipCells (n + 4) (n + 2) (n + 3) (n + 0) (n + 1), _, _, H1, rfl, I1.kept (t' := s1.toks) kp, turn_zipS (tk := tk) sep (far 0) (far 3) (far 1) (far 4), ⟨gz, gI, ⟨_, _, gO⟩, ⟨_, g1, rfl, rfl⟩, ⟨_, g2, rfl, rfl⟩⟩, ?_, r⟩
        simp only [zipCells, List.forall_mem_cons]
        exact ⟨new 4, new 2, new 3, new 0, new 1, fun _ hc => nomatch hc⟩
end

end Su
namespace Su
theorem pi_listK {X : Cx} {K : PySem.W.Frag} {tg l : Expr} {tl : TE} (hl : PE X l tl) (h : X.K = K := by rfl) : PI X tg l (iList K tl) := h ▸ pi_list hl

end Su
namespace Su
/-! ### comprehensions over any walk without new objects; over a list or a tuple; over range with a step; two clauses -/
section
variable {K : PySem.W.Frag} {σ : L2.St} {H : Hp} {t : TT} {te : TE} {g : TG} {vs : List Nat}
theorem lcw {J : It} {n : Nat} {G : Hp → Prop} {Y : Nat → Hp → V → Hp → Prop} (w : Walk J n G Y) (X : Nat → V → Prop) (hY : ∀ i H x H', Y i H x H' → H' = H ∧ X i x) (f : Nat → Bool) (v : Nat → V) {H1 : Hp} {Q : VK} (hG : ∀ H', Ex H1 H' → G H') (hn : n ≤ 40000)
    (hs : ∀ i x, i < n → X i x → ∃ σ2, Tgt g x (wipe σ vs) σ2 H1 ∧ wipe σ2 vs = wipe σ vs ∧ EvT t σ2 H1 (f i) ∧ (f i = true → Ev te σ2 H1 (v i)))
    (q : ∀ D H', H1 D = none → Ex H1 H' → H' D = some (.lst (given n f v)) → Q (.ref D) H') :
    ∀ D, H1 D = none → ∃ W : Nat → Nat → Hp → Prop, (∃ m, W 0 m (upd H1 D (.lst []))) ∧ ∀ i m H, W i m H →
      (J.stop i H ∧ Q (.ref D) H) ∨ (J.go i H ∧ ∃ Nx : Hp → Prop, (∀ H', Nx H' → ∃ m', m' < m ∧ W (i + 1) m' H') ∧ ∀ x H', J.yld i H x H' → g x (wipe σ vs) H' fun σ2 H2 => wipe σ2 vs = wipe σ vs ∧ t σ2 H2 fun b H3 =>
        if b = true then te σ2 H3 fun y H4 => ∃ acc, H4 D = some (.lst acc) ∧ acc.length < sizeLine ∧ Nx (upd H4 D (.lst (acc ++ [y]))) else Nx H3) := fun D hD =>
  lc_it w (Qd := fun H' => Q (.ref D) H') (Cw H1 f v D) ⟨hD, Ex.new hD, upd_same⟩ (fun i H' _ p => hG _ p.2.1) (fun i x H2 H2' hi p y => by
    obtain ⟨rfl, hx⟩ := hY _ _ _ _ y
    obtain ⟨σ2, h1, h2, h3, h4⟩ := hs i x hi hx
    exact h1 _ p.2.1 _ ⟨h2, cw_turn2 p (by omega) p.2.1 h3 h4⟩) (fun H' p => q D H' p.1 p.2.1 p.2.2)
def iSeqA (K : PySem.W.Frag) (te : TE) : TI := fun σ H R => te σ H fun v H1 => ∃ a, v = .ref a ∧ (((∃ xs, SqL K H1 a xs) ∧ R (Itl K a) H1) ∨ ((∃ xs, SqT K H1 a xs) ∧ R (Itt K a) H1))
theorem pi_seqA {X : Cx} {tg l : Expr} {tl : TE} (seq : PE X l tl) : PI X tg l (iSeqA X.K tl) where
  run pins s σ H R Iv want := thn (seq.run pins s σ H _ Iv want) fun v s1 got => by
    obtain ⟨_, H1, I1, rel, a, rfl, r⟩ := got
    cases rel
    rcases r with ⟨⟨_, hq⟩, r⟩ | ⟨⟨_, hq⟩, r⟩
    · exact wpAny_pyIter_list ((I1.list hq).choose_spec.2.1).isList (pi_one (tk := s1.toks) I1 _ (turn_list a _) ⟨_, Heap.get?_push_size _ rfl, rfl, rfl⟩ r)
    · exact wpAny_pyIter_tuple (I1.tuple hq).choose_spec.2.1 (pi_one (tk := s1.toks) I1 _ (turn_tuple a _) ⟨_, Heap.get?_push_size _ rfl, rfl, rfl⟩ r)
theorem pi_seqAK {X : Cx} {K : PySem.W.Frag} {tg l : Expr} {tl : TE} (hl : PE X l tl) (h : X.K = K := by rfl) : PI X tg l (iSeqA K tl) := h ▸ pi_seqA hl
theorem pi_zipSK {X : Cx} {K : PySem.W.Frag} {e e2 : Expr} {ta : TA} {p pos tpos : Pos} {elts : List Expr} {kk : Nat} (hg : Gl X "zip") (hm : X.mg "zip" = none) (ha : PA X [e, e2] ta)
    (hs : starEach [e, e2] X.env = (false, eval e X.env) :: starEach [e2] X.env := by rfl) (hpl : (backTo pos (starEach [e2] X.env)).any (·.1) = false := by rfl) (h : X.K = K := by rfl) :
    PI X (.Tuple elts kk tpos) (.Call (.Name "zip" p) [e, e2] [] pos) (iZipS K ta) := h ▸ pi_zipS hg hm ha hs hpl
theorem cr_sumK {X : Cx} {K : PySem.W.Frag} (hc : X.calm = true) (h : X.K = K := by rfl) : CallR X (.builtin "sum") (rSum K) := h ▸ cr_sum hc
/-- [.. for x in a list or tuple] -/
theorem el_lcSq {tl : TE} {a : Addr} {xs : List V} (f : Nat → Bool) (v : Nat → V) (h : Ev tl σ H (.ref a)) (hx : SqL K H a xs ∨ SqT K H a xs) (hz : xs.length ≤ 40000)
    (hs : ∀ (i : Nat) (x : V) Hb, Ex H Hb → xs[i]? = some x → ∃ σ2, Tgt g x (wipe σ vs) σ2 Hb ∧ wipe σ2 vs = wipe σ vs ∧ EvT t σ2 Hb (f i) ∧ (f i = true → Ev te σ2 Hb (v i))) :
    EvL (tLc (iSeqA K tl) g t te vs) σ H (given xs.length f v) := fun H0 e Q q => h H0 e _ fun H1 e1 => ⟨a, rfl, by
  rcases hx with hx | hx
  · exact .inl ⟨⟨xs, ex_l (e.trans e1) hx⟩, lcw walk_list (fun i x => xs[i]? = some x) (fun _ _ _ _ y => y) f v (fun H' e' => ex_l ((e.trans e1).trans e') hx) hz (fun i x _ hi => hs i x H1 (e.trans e1) hi) fun D H' hD e' h' => q D H' (fresh_back e1 hD) (e1.trans e') h'⟩
  · exact .inr ⟨⟨xs, ex_t (e.trans e1) hx⟩, lcw walk_tup (fun i x => xs[i]? = some x) (fun _ _ _ _ y => y) f v (fun H' e' => ex_t ((e.trans e1).trans e') hx) hz (fun i x _ hi => hs i x H1 (e.trans e1) hi) fun D H' hD e' h' => q D H' (fresh_back e1 hD) (e1.trans e') h'⟩⟩
/-- .. over a list or tuple just made -/
theorem el_lcSqN {tl : TE} {xs : List V} (f : Nat → Bool) (v : Nat → V) (h : EvL tl σ H xs) (hz : xs.length ≤ 40000)
    (hs : ∀ (i : Nat) (x : V) Hb, Ex H Hb → xs[i]? = some x → ∃ σ2, Tgt g x (wipe σ vs) σ2 Hb ∧ wipe σ2 vs = wipe σ vs ∧ EvT t σ2 Hb (f i) ∧ (f i = true → Ev te σ2 Hb (v i))) :
    EvL (tLc (iSeqA K tl) g t te vs) σ H (given xs.length f v) := fun H0 e Q q => h H0 e _ fun a H1 ha e1 hx => ⟨a, rfl,
  .inl ⟨⟨xs, sq_of hx⟩, lcw walk_list (fun i x => xs[i]? = some x) (fun _ _ _ _ y => y) f v (fun H' e' => sq_of (e' _ _ hx)) hz (fun i x _ hi => hs i x H1 (e.trans e1) hi) fun D H' hD e' h' => q D H' (fresh_back e1 hD) (e1.trans e') h'⟩⟩
/-- [.. for c in a text] -/
theorem el_lcStr {tl : TE} {z : Str} (f : Nat → Bool) (v : Nat → V) (h : Ev tl σ H (.str z)) (hz : z.cps.size ≤ 40000)
    (hs : ∀ (i c : Nat) Hb, Ex H Hb → z.cps[i]? = some c → ∃ σ2, Tgt g (.str ⟨#[c]⟩) (wipe σ vs) σ2 Hb ∧ wipe σ2 vs = wipe σ vs ∧ EvT t σ2 Hb (f i) ∧ (f i = true → Ev te σ2 Hb (v i))) :
    EvL (tLc (iStr tl) g t te vs) σ H (given z.cps.size f v) := fun H0 e Q q => h H0 e _ fun H1 e1 => ⟨z, rfl,
  lcw walk_str (fun i x => ∃ c, z.cps[i]? = some c ∧ x = .str ⟨#[c]⟩) (fun _ _ _ _ y => y) f v (fun _ _ => trivial) hz (fun i x _ hi => by
    obtain ⟨c, hc, rfl⟩ := hi
    exact hs i c H1 (e.trans e1) hc) fun D H' hD e' h' => q D H' (fresh_back e1 hD) (e1.trans e') h'⟩
/-- [.. for a, b in zip(a list, a text)] -/
theorem el_lcZS {ta : TA} {a : Addr} {xs : List V} {z : Str} (f : Nat → Bool) (v : Nat → V) (h : EvA ta σ H [.ref a, .str z]) (hx : SqL K H a xs) (hl : xs.length = z.cps.size) (hz : xs.length ≤ 40000)
    (hs : ∀ (i : Nat) (x : V) (c : Nat) T Hb, Ex H Hb → xs[i]? = some x → z.cps[i]? = some c → Hb T = some (.tup [x, .str ⟨#[c]⟩]) → ∃ σ2, Tgt g (.ref T) (wipe σ vs) σ2 Hb ∧ wipe σ2 vs = wipe σ vs ∧ EvT t σ2 Hb (f i) ∧ (f i = true → Ev te σ2 Hb (v i))) :
    EvL (tLc (iZipS K ta) g t te vs) σ H (given xs.length f v) := fun H0 e Q q => h H0 e _ fun H1 e1 => ⟨a, z, xs, rfl, ex_l (e.trans e1) hx, fun Dl hD => by
  refine ⟨fun i m H' => m = xs.length - i ∧ i ≤ xs.length ∧ Cw H1 f v Dl i H', ⟨xs.length, by simp, Nat.zero_le _, hD, Ex.new hD, upd_same⟩, ?_⟩
  rintro i m H' ⟨rfl, hi, p⟩
  have hX := ex_l ((e.trans e1).trans p.2.1) hx
  by_cases hlt : i < xs.length
  · have hlt2 : i < z.cps.size := by omega
    refine .inr ⟨⟨xs, xs[i], z.cps[i], hX, List.getElem?_eq_getElem hlt, Array.getElem?_eq_getElem hlt2⟩, Cw H1 f v Dl (i + 1), fun H2 p' => ⟨xs.length - (i + 1), by omega, rfl, hlt, p'⟩, fun zz H2 hzz => ?_⟩
    obtain ⟨T, x, c, rfl, nT, rfl, hxx, hc⟩ := hzz
    have eT : Ex H' (upd H' T (.tup [x, .str ⟨#[c]⟩])) := Ex.new nT
    have hTD : T ≠ Dl := fun z => by rw [z, p.2.2] at nT; cases nT
    have p2 := cw_ex p eT
    obtain ⟨σ2, h1, h2, h3, h4⟩ := hs i x c T (dropAt (upd H' T (.tup [x, .str ⟨#[c]⟩])) Dl) (ex_drop (((e.trans e1).trans p.2.1).trans eT) (fresh_back (e.trans e1) p.1)) (hxx xs hX) hc (drop_of upd_same hTD)
    exact h1 _ drop_ex _ ⟨h2, cw_turn2 p2 (by omega) drop_ex h3 h4⟩
  · have ei : i = xs.length := by omega
    subst ei
    exact .inl ⟨⟨xs, hX, rfl, hl⟩, q Dl H' (fresh_back e1 p.1) (e1.trans p.2.1) p.2.2⟩⟩
theorem tg_cons {i : Nat} {x : V} {σ : L2.St} {H : Hp} : Tgt (gName i) x σ (σ.set i (some x)) H := tg_name
/-- a target of five names, for a tuple of five -/
theorem tg_5 {K : PySem.W.Frag} {T : Addr} {i1 i2 i3 i4 i5 : Nat} {x1 x2 x3 x4 x5 : V} {σ : L2.St} {H : Hp} (h : SqT K H T [x1, x2, x3, x4, x5]) :
    Tgt (gTup K 5 (gCons (gName i1) (gCons (gName i2) (gCons (gName i3) (gCons (gName i4) (gCons (gName i5) gNil)))))) (.ref T) σ (((((σ.set i1 (some x1)).set i2 (some x2)).set i3 (some x3)).set i4 (some x4)).set i5 (some x5)) H := fun H2 e Q q =>
  ⟨T, _, rfl, ex_t e h, rfl, x1, _, rfl, x2, _, rfl, x3, _, rfl, x4, _, rfl, x5, _, rfl, rfl, q⟩
/-- x, .. = an expression -/
theorem q_asgG {te : TE} {g : TG} {tz : TS} {D : Ends} {v : V} {σ σ2 : L2.St} {H : Hp} (h : Ev te σ H v) (hg : ∀ H1, Ex H H1 → Tgt g v σ σ2 H1) (k : ∀ H1, Ex H H1 → tz D σ2 H1) : tSeq (tAsg te g) tz D σ H :=
  h H (Ex.refl H) _ fun H1 e1 => hg H1 e1 H1 (Ex.refl _) _ (k H1 e1)
theorem q_asgGU {te : TE} {g : TG} {tz : TS} {D : Ends} {xs : List V} {σ σ2 : L2.St} {H : Hp} (h : EvU te σ H xs) (hg : ∀ p H1, Ex H H1 → H1 p = some (.tup xs) → Tgt g (.ref p) σ σ2 H1) (k : ∀ H1, Ex H H1 → tz D σ2 H1) : tSeq (tAsg te g) tz D σ H :=
  h H (Ex.refl H) _ fun p H1 _ e1 h1 => hg p H1 e1 h1 H1 (Ex.refl _) _ (k H1 e1)
end

end Su
namespace Su
open TL
/-! ### numbers as texts -/
def numT (n : Int) : Str := Str.ofString (toString n)
theorem numT_tl {n : Int} (h0 : 0 ≤ n) : tl (numT n) = numL n.toNat := by
  have h := tl_num n.toNat
  rwa [Int.toNat_of_nonneg h0] at h
theorem numT_len {n : Int} (h0 : 0 ≤ n) (h : n < 10 ^ 12) : 1 ≤ (numT n).length ∧ (numT n).length ≤ 12 :=
  ⟨PySem.W.KLn.one_le h0, toString_length_le h0 (by decide) h⟩
theorem numL_digits (m : Nat) : ∀ c ∈ numL m, 48 ≤ c ∧ c ≤ 57 := fun c hc =>
  let ⟨_, hd, e⟩ := List.mem_map.mp hc
  e ▸ digit_range (Nat.isDigit_of_mem_toDigits (by decide) (by decide) hd)
theorem numL_head (m : Nat) : (numL m).head? = some 48 → m = 0 := by
  induction m using Nat.strongRecOn with
  | _ m ih =>
    by_cases h : m < 10
    · rw [numL_lt h]
      intro e
      have : 48 + m = 48 := Option.some.inj e
      omega
    · rw [numL_step (by omega), List.head?_append]
      intro e
      cases hn : (numL (m / 10)).head? with
      | none =>
        have := numL_digits (m / 10)
        have hne : numL (m / 10) ≠ [] := by
          unfold numL
          intro e2
          have h2 := PySem.toDigits_len_ge 10 (m / 10)
          rw [List.map_eq_nil_iff.mp e2] at h2
          exact absurd h2 (by decide)
        exact absurd (List.head?_eq_none_iff.mp hn) hne
      | some c =>
        rw [hn] at e
        have e2 : c = 48 := Option.some.inj e
        have := ih (m / 10) (by omega) (by rw [hn, e2])
        omega
theorem numT_zero : numT 0 = Str.ofString "0" := rfl
theorem numT_reads {n : Int} (h0 : 0 ≤ n) (h1 : n < 10 ^ 12) : PySem.intText? (numT n) = some n := by
  have hl := (numT_len h0 h1).2
  have ht := numT_tl h0
  have hd : PySem.NumText.AllDigits (numT n).cps.toList := by
    show PySem.NumText.AllDigits (tl (numT n))
    rw [ht]
    exact numL_digits _
  have hne : (numT n).cps.toList ≠ [] := by
    intro e
    have := (numT_len h0 h1).1
    have h2 : (numT n).cps.toList.length = (numT n).length := Array.length_toList
    rw [e] at h2
    change 0 = _ at h2
    omega
  have e := PySem.intText_digits hd hne (Nat.le_trans hl (by decide))
  rw [e, show (numT n).cps.toList = numL n.toNat from ht]
  have hv : PySem.NumText.digitsVal (numL n.toNat) = n.toNat := PySem.W.KIN.val_back n.toNat
  rw [hv]
  exact congrArg some (Int.toNat_of_nonneg h0)
theorem log_small {i : Int} (h0 : -(10 ^ 70) ≤ i) (h : i ≤ 10 ^ 70) : i.natAbs.log2 < 1920 := by
  by_cases hz : i.natAbs = 0
  · rw [hz]; decide
  · exact (Nat.log2_lt hz).mpr (Nat.lt_of_le_of_lt (show i.natAbs ≤ 10 ^ 70 by omega) (by decide))
def rStrA : List V → Hp → VK → Prop := fun xs H Q => (∃ i, xs = [V.int i] ∧ i.natAbs.log2 < 1920 ∧ Q (.str (numT i)) H) ∨ (∃ a, xs = [V.str a] ∧ Q (.str a) H)
theorem call_strA {X : Cx} : CallR X (.type "str") rStrA := by
  intro pins s σ H xs us Q I r h
  rcases h with ⟨i, rfl, hz, q⟩ | ⟨a, rfl, q⟩
  · exact call_str_int pins s σ H _ us Q I r ⟨i, rfl, hz, q⟩
  · exact SkE.call_str_str pins s σ H _ us Q I r ⟨a, rfl, q⟩
theorem rc_strI {H : Hp} {i : Int} (h0 : -(10 ^ 70) ≤ i) (h : i ≤ 10 ^ 70) : RC rStrA [.int i] H (.str (numT i)) := fun H1 _ _ q => .inl ⟨i, rfl, log_small h0 h, q H1 (Ex.refl _)⟩
theorem rc_strS {H : Hp} {a : Str} : RC rStrA [.str a] H (.str a) := fun H1 _ _ q => .inr ⟨a, rfl, q H1 (Ex.refl _)⟩
theorem rc_lenS {H : Hp} {z : Str} (h : z.length ≤ 100000) : RC (fun xs H Q => ∃ z, xs = [V.str z] ∧ z.length ≤ sizeLine ∧ Q (.int z.length) H) [.str z] H (.int z.length) := fun H1 _ _ q => ⟨z, rfl, sz_of h, q H1 (Ex.refl _)⟩
theorem rc_intS {H : Hp} {z : Str} {n : Int} (h : PySem.intText? z = some n) (hl : z.length ≤ 640) : RC (fun xs H Q => ∃ a n, xs = [V.str a] ∧ PySem.intText? a = some n ∧ a.length ≤ 640 ∧ Q (.int n) H) [.str z] H (.int n) := fun H1 _ _ q => ⟨z, n, rfl, h, hl, q H1 (Ex.refl _)⟩
theorem rv_inSign {H : Hp} {c : Nat} {z : Str} : RV (fun x y H Q => ∃ (c : Nat) (z : Str), x = .str ⟨#[c]⟩ ∧ y = .str z ∧ Q (.bl (decide (c ∈ z.cps.toList))) H) (.str ⟨#[c]⟩) (.str z) H (.bl (decide (c ∈ z.cps.toList))) := fun H1 _ _ q => ⟨c, z, rfl, rfl, q H1 (Ex.refl _)⟩
/-- text.split(sep) -/
theorem el_split {to te : TE} {σ : L2.St} {H : Hp} {a b : Str} {ws : List Str} (h1 : Ev to σ H (.str a)) (h2 : Ev te σ H (.str b)) (hb : (b.length == 0) = false) (hz : a.length ≤ 100000) (hs : Txt.split a b = ws) :
    EvL (tM1 (fun x xs H Q => ∃ a b, x = .str a ∧ xs = [.str b] ∧ (b.length == 0) = false ∧ a.length + 2 ≤ sizeLine ∧ rNewStrs (Txt.split a b) H Q) to te) σ H (ws.map V.str) := fun H1 e Q q =>
  h1 H1 e _ fun H2 e2 => ⟨⟨a, rfl⟩, h2 H2 (e.trans e2) _ fun H3 e3 => ⟨a, b, rfl, rfl, hb, Nat.le_trans (Nat.add_le_add_right hz 2) (by decide), fun p hp => by
    rw [hs]
    exact q p _ (fresh_back (e2.trans e3) hp) ((e2.trans e3).trans (Ex.new hp)) upd_same⟩⟩
theorem blank_all : (Str.ofString " ").cps.all (· < 256) = true := by decide +kernel
theorem split_blank {ws : List Str} (hne : ws ≠ []) (h : ∀ p ∈ ws, 32 ∉ tl p) : Txt.split (Txt.join (Str.ofString " ") ws) (Str.ofString " ") = ws :=
  TL.split_join (s := 32) (S := []) (by decide +kernel) blank_all hne h

end Su
namespace Su
open TL
/-! ### deeds: their words, their data -/
inductive DW where
  | nm (s : Str)
  | no (n : Int)
def DW.v : DW → V | .nm s => .str s | .no n => .int n
def DW.d : DW → PyData | .nm s => .str s | .no n => .int n
def DW.txt : DW → Str | .nm s => s | .no n => numT n
def DW.sign : DW → Nat | .nm _ => 110 | .no _ => 99
def NameL (s : Str) : Prop := 1 ≤ s.length ∧ s.length ≤ 12 ∧ ∀ c ∈ tl s, 97 ≤ c ∧ c < 123
def NumOk (n : Int) : Prop := 0 ≤ n ∧ n < 10 ^ 12
def DW.ok : DW → Prop | .nm s => NameL s | .no n => NumOk n
inductive Deed where
  | simp (w : Str) (ps : List DW)
  | found (c : Str) (stake : Int) (bid : Bool) (seats : List (Str × Int × Int))
abbrev foundS : Str := Str.ofString "found"
abbrev plainS : Str := Str.ofString "plain"
abbrev bidsS : Str := Str.ofString "bids"
def seatD (s : Str × Int × Int) : PyData := .tuple [.str s.1, .int s.2.1, .int s.2.2]
def seatV (s : Str × Int × Int) : List V := [.str s.1, .int s.2.1, .int s.2.2]
def seatP (s : Str × Int × Int) : List DW := [.nm s.1, .no s.2.1, .no s.2.2]
def deedD : Deed → PyData
  | .simp w ps => .tuple (.str w :: ps.map DW.d)
  | .found c s b seats => .tuple [.str foundS, .str c, .int s, .bool b, .tuple (seats.map seatD)]
def deedP : Deed → List DW
  | .simp w ps => .nm w :: ps
  | .found c s b seats => .nm foundS :: .nm c :: .no s :: .nm (if b then bidsS else plainS) :: (seats.map seatP).flatten
def wordsOf (d : Deed) : List Str := (deedP d).map DW.txt
def lineOf (d : Deed) : Str := Txt.join (Str.ofString " ") (wordsOf d)
def formsKv : List (Str × V) := [("enter", .str "n"), ("part", .str "n"), ("bring", .str "nc"), ("take", .str "nc"), ("pay", .str "nn"), ("bid", .str "nnc"), ("lay", .str "nnc"), ("swap", .str "nnn"), ("close", .str "n")]
def DeedOk : Deed → Prop
  | .simp w ps => (∃ form : Str, getD' formsKv w = some (.str form) ∧ tl form = ps.map DW.sign) ∧ ∀ p ∈ ps, p.ok
  | .found c s _ seats => NameL c ∧ NumOk s ∧ 1 ≤ seats.length ∧ seats.length ≤ 1000 ∧ ∀ q ∈ seats, NameL q.1 ∧ NumOk q.2.1 ∧ NumOk q.2.2
theorem DW.txt_len {p : DW} (h : p.ok) : 1 ≤ p.txt.length ∧ p.txt.length ≤ 12 := by
  cases p with
  | nm s => exact ⟨h.1, h.2.1⟩
  | no n => exact numT_len h.1 h.2
theorem DW.txt_noblank {p : DW} (h : p.ok) : 32 ∉ tl p.txt := by
  cases p with
  | nm s => exact fun hc => by have := h.2.2 32 hc; omega
  | no n =>
    show 32 ∉ tl (numT n)
    rw [numT_tl h.1]
    exact fun hc => by have := numL_digits _ 32 hc; omega
theorem dw_dp {K : PySem.W.Frag} {H : Hp} (p : DW) : Dp K H p.v p.d := by
  cases p with
  | nm s => exact .str s
  | no n => exact .int n
theorem dpa_dw {K : PySem.W.Frag} {H : Hp} (ps : List DW) : DpAll K H (ps.map DW.v) (ps.map DW.d) := dpa_of DW.v DW.d ps fun p _ => dw_dp p
theorem dw_of {K : PySem.W.Frag} {H : Hp} {x : V} (p : DW) (h : Dp K H x p.d) : x = p.v := by
  cases p with
  | nm s => cases h; rfl
  | no n => cases h; rfl
theorem dws_of {K : PySem.W.Frag} {H : Hp} : ∀ {xs : List V} (ps : List DW), DpAll K H xs (ps.map DW.d) → xs = ps.map DW.v
  | _, [], .nil => rfl
  | _, p :: ps, .cons h1 h2 => by rw [dw_of p h1, dws_of ps h2]; rfl
/-- the lengths of words of at most 12 signs -/
theorem sum_len {ws : List Str} {m : Nat} (h : ∀ w ∈ ws, w.length ≤ m) : (ws.map (·.length)).sum ≤ m * ws.length := by
  induction ws with
  | nil => exact Nat.zero_le _
  | cons a r ih =>
    have h1 := h a List.mem_cons_self
    have h2 := ih fun w hw => h w (List.mem_cons_of_mem _ hw)
    rw [List.map_cons, List.sum_cons, List.length_cons, Nat.mul_add, Nat.mul_one]
    omega
theorem joinL_len {m : Nat} (y : List Nat) (hy : y.length ≤ 1) : ∀ ws : List (List Nat), (∀ w ∈ ws, w.length ≤ m) → (joinL y ws).length ≤ (m + 1) * ws.length
  | [], _ => Nat.zero_le _
  | [a], h => by
    have := h a List.mem_cons_self
    show a.length ≤ (m + 1) * 1
    omega
  | a :: b :: r, h => by
    have h1 := h a List.mem_cons_self
    have ih := joinL_len y hy (b :: r) fun w hw => h w (List.mem_cons_of_mem _ hw)
    show (a ++ (y ++ joinL y (b :: r))).length ≤ _
    rw [List.length_append, List.length_append, List.length_cons, Nat.mul_add, Nat.mul_one]
    omega
theorem join_len {ws : List Str} {m : Nat} (h : ∀ w ∈ ws, w.length ≤ m) : (Txt.join (Str.ofString " ") ws).length ≤ (m + 1) * ws.length := by
  rw [len_tl, join_eq, tl_join]
  have := joinL_len (m := m) (tl (Str.ofString " ")) (by decide +kernel) (ws.map tl) (fun w hw => by
    obtain ⟨z, hz, rfl⟩ := List.mem_map.mp hw
    rw [← len_tl]
    exact h z hz)
  rw [List.length_map] at this
  exact this
theorem forms_word {w : Str} {v : V} (h : getD' formsKv w = some v) : w.length ≤ 12 ∧ 32 ∉ tl w ∧ w ≠ foundS ∧ ∃ f : Str, v = .str f ∧ (tl f).length ≤ 3 ∧ f.length ≤ 3 := by
  unfold getD' at h
  obtain ⟨kv, hk, rfl⟩ := Option.map_eq_some_iff.mp h
  have hm := List.mem_of_find?_eq_some hk
  have he := List.find?_some hk
  have hw : kv.1 = w := by simpa using he
  subst hw
  clear h hk he
  have hm : kv ∈ ([("enter", .str "n"), ("part", .str "n"), ("bring", .str "nc"), ("take", .str "nc"), ("pay", .str "nn"), ("bid", .str "nnc"), ("lay", .str "nnc"), ("swap", .str "nnn"), ("close", .str "n")] : List (Str × V)) := hm
  rw [List.mem_cons, List.mem_cons, List.mem_cons, List.mem_cons, List.mem_cons, List.mem_cons, List.mem_cons, List.mem_cons, List.mem_singleton] at hm
  rcases hm with rfl | rfl | rfl | rfl | rfl | rfl | rfl | rfl | rfl <;> exact ⟨by decide +kernel, by decide +kernel, by decide +kernel, _, rfl, by decide +kernel, by decide +kernel⟩
theorem deed_words {d : Deed} (h : DeedOk d) : (∀ w ∈ wordsOf d, w.length ≤ 12) ∧ (∀ w ∈ wordsOf d, 32 ∉ tl w) ∧ (wordsOf d).length ≤ 3004 ∧ wordsOf d ≠ [] := by
  unfold wordsOf
  cases d with
  | simp w ps =>
    obtain ⟨⟨form, hf, hs⟩, hp⟩ := h
    obtain ⟨h1, h2, _, f, e, h3, _⟩ := forms_word hf
    cases e
    rw [hs, List.length_map] at h3
    refine ⟨fun x hx => ?_, fun x hx => ?_, ?_, by simp [deedP]⟩
    · rcases List.mem_map.mp hx with ⟨p, hp', rfl⟩
      rcases List.mem_cons.mp hp' with rfl | hp'
      · exact h1
      · exact (DW.txt_len (hp p hp')).2
    · rcases List.mem_map.mp hx with ⟨p, hp', rfl⟩
      rcases List.mem_cons.mp hp' with rfl | hp'
      · exact h2
      · exact DW.txt_noblank (hp p hp')
    · rw [List.length_map]
      show ps.length + 1 ≤ 3004
      omega
  | found c s b seats =>
    obtain ⟨hc, hs, l1, l2, hq⟩ := h
    have key : ∀ p ∈ deedP (.found c s b seats), p.txt.length ≤ 12 ∧ 32 ∉ tl p.txt := fun p hp => by
      unfold deedP at hp
      rcases List.mem_cons.mp hp with rfl | hp
      · exact ⟨by decide +kernel, by decide +kernel⟩
      rcases List.mem_cons.mp hp with rfl | hp
      · exact ⟨hc.2.1, DW.txt_noblank (p := .nm c) hc⟩
      rcases List.mem_cons.mp hp with rfl | hp
      · exact ⟨(DW.txt_len (p := .no s) hs).2, DW.txt_noblank (p := .no s) hs⟩
      rcases List.mem_cons.mp hp with rfl | hp
      · cases b
        · exact ⟨by decide +kernel, by decide +kernel⟩
        · exact ⟨by decide +kernel, by decide +kernel⟩
      obtain ⟨l, hl, hpl⟩ := List.mem_flatten.mp hp
      obtain ⟨q, hqm, rfl⟩ := List.mem_map.mp hl
      obtain ⟨q1, q2, q3⟩ := hq q hqm
      unfold seatP at hpl
      simp only [List.mem_cons, List.not_mem_nil, or_false] at hpl
      rcases hpl with rfl | rfl | rfl
      · exact ⟨q1.2.1, DW.txt_noblank (p := .nm q.1) q1⟩
      · exact ⟨(DW.txt_len (p := .no q.2.1) q2).2, DW.txt_noblank (p := .no q.2.1) q2⟩
      · exact ⟨(DW.txt_len (p := .no q.2.2) q3).2, DW.txt_noblank (p := .no q.2.2) q3⟩
    refine ⟨fun x hx => ?_, fun x hx => ?_, ?_, by simp [deedP]⟩
    · obtain ⟨p, hp, rfl⟩ := List.mem_map.mp hx
      exact (key p hp).1
    · obtain ⟨p, hp, rfl⟩ := List.mem_map.mp hx
      exact (key p hp).2
    · rw [List.length_map]
      unfold deedP
      rw [List.length_cons, List.length_cons, List.length_cons, List.length_cons, List.length_flatten, List.map_map]
      have : (List.length ∘ seatP) = fun _ => 3 := rfl
      rw [this, List.map_const', List.sum_replicate_nat]
      omega
theorem line_len {d : Deed} (h : DeedOk d) : (lineOf d).length ≤ 40000 := by
  obtain ⟨h1, _, h3, _⟩ := deed_words h
  have := join_len h1
  unfold lineOf
  omega
theorem line_split {d : Deed} (h : DeedOk d) : Txt.split (lineOf d) (Str.ofString " ") = wordsOf d := split_blank (deed_words h).2.2.2 (deed_words h).2.1

end Su
namespace Su
open TL
/-! ### is_name -/
def isNameB (z : Str) : Bool := (decide (1 ≤ (z.length : Int)) && decide ((z.length : Int) ≤ 12)) && (tl z).all fun c => decide (c ∈ lettersS.cps.toList)
theorem letters_mem {c : Nat} : c ∈ lettersS.cps.toList ↔ 97 ≤ c ∧ c < 123 := by
  have e : lettersS.cps.toList = (List.range 26).map fun k => 97 + k := by decide +kernel
  rw [e, List.mem_map]
  constructor
  · rintro ⟨k, hk, rfl⟩
    have := List.mem_range.mp hk
    omega
  · rintro ⟨h1, h2⟩
    exact ⟨c - 97, List.mem_range.mpr (by omega), by omega⟩
theorem isName_iff {z : Str} : isNameB z = true ↔ NameL z := by
  unfold isNameB NameL
  rw [Bool.and_eq_true, Bool.and_eq_true, decide_eq_true_eq, decide_eq_true_eq, List.all_eq_true]
  constructor
  · rintro ⟨⟨h1, h2⟩, h3⟩
    exact ⟨by omega, by omega, fun c hc => letters_mem.mp (of_decide_eq_true (h3 c hc))⟩
  · rintro ⟨h1, h2, h3⟩
    exact ⟨⟨by omega, by omega⟩, fun c hc => decide_eq_true (letters_mem.mpr (h3 c hc))⟩
theorem given_all' {n : Nat} {v : Nat → V} : given n (fun _ => true) v = (List.range n).map v := by
  unfold given
  rw [List.filter_eq_self.mpr fun _ _ => rfl]
theorem signs_map {z : Str} (p : Nat → Bool) : (List.range z.cps.size).map (fun i => V.bl (p (z.cps.getD i 0))) = ((tl z).map p).map V.bl := by
  apply List.ext_getElem
  · rw [List.length_map, List.length_range, List.length_map, List.length_map]
    exact (show z.cps.size = z.length from rfl).trans (len_tl z)
  · intro i h1 h2
    rw [List.getElem_map, List.getElem_map, List.getElem_map, List.getElem_range]
    have hi : i < z.cps.size := by rw [List.length_map, List.length_range] at h1; exact h1
    congr 2
    rw [Array.getD_eq_getD_getElem?, Array.getElem?_eq_getElem hi]
    rfl
theorem ev_allB {K : PySem.W.Frag} {te : TE} {σ : L2.St} {H : Hp} {bs : List Bool} {b : Bool} (h : EvL te σ H (bs.map V.bl)) (hb : bs.all id = b) : Ev (tCB (rAll K) (tCons te tNil)) σ H (.bl b) := fun H1 e Q q =>
  h H1 e _ fun p H2 _ e2 h2 => ⟨p, bs, rfl, sq_of h2, by
    have e3 : bs.all (fun x => x) = b := hb
    first | (rw [e3]; exact q H2 e2) | (subst hb; exact q H2 e2)⟩
theorem ev_allSigns {K : PySem.W.Frag} {tl0 te : TE} {j : Nat} {σ : L2.St} {H : Hp} {z : Str} (p : Nat → Bool) (h : Ev tl0 σ H (.str z)) (hz : z.cps.size ≤ 40000) (hw : ∀ x, wipe ((wipe σ [j]).set j (some x)) [j] = wipe σ [j])
    (hs : ∀ c Hb, Ex H Hb → Ev te ((wipe σ [j]).set j (some (.str ⟨#[c]⟩))) Hb (.bl (p c))) : Ev (tCB (rAll K) (tCons (tLc (iStr tl0) (gName j) tYes te [j]) tNil)) σ H (.bl ((tl z).all p)) := by
  refine ev_allB (bs := (tl z).map p) ?_ (by rw [List.all_map]; rfl)
  rw [← signs_map, ← given_all']
  refine el_lcStr _ _ h hz fun i c Hb eb hc => ⟨_, tg_name, hw _, et_yes, fun _ => ?_⟩
  rw [show z.cps.getD i 0 = c from by rw [Array.getD_eq_getD_getElem?, hc]; rfl]
  exact hs c Hb eb
section
variable {P : Program} {w : World} {K : PySem.W.Frag} {mg : Str → Option Value} {base : Heap}
def spIsName : Sp := fun vs H Q _ => ∃ z : Str, vs = [.str z] ∧ z.length ≤ 40000 ∧ ∀ H', Ex H H' → Q (.bl (isNameB z)) H'
theorem spV_isName {z : Str} {H : Hp} (hz : z.length ≤ 40000) : SpV spIsName [.str z] H (.bl (isNameB z)) := fun H1 e Q q _ => ⟨z, rfl, hz, q⟩
theorem ok_is_name {f : Addr} {fd : FuncData} (F : Fun K "is_name" "is_name" s_is_name f fd) (T : Top K mg) : FnOk P w K mg base CX0 1 f fd ["text"] spIsName := by
  have nd := sc_is_name.nd
  refine F.ok sc_is_name (fun vs H Q E h => ?_) (fun cdv A outer s H vs Q E hr h => ?_)
  · obtain ⟨z, rfl, _⟩ := h
    rfl
  · obtain ⟨z, rfl, hz, q⟩ := h
    refine ⟨_, (pss_one (ps_ret (pe_and (pe_chain op_le op_le pe_int (pe_callB call_len_str (by rfl) T.m_len PySem.boot_len (pa_cons (pv 0) pa_nil)) (pe_glob (v := .int 12) (by rfl) T.m_LONGEST_NAME ⟨_, rfl⟩)) (pe_one (pe_callB (cr_all rfl) (by rfl) T.m_all (by decide +kernel) (pa_cons (pe_lc (own := [("sign", 1)]) (g := gName 1) (tt := tYes) rfl nd (pi_str (pv 0)) (blkOk_by (own := [("sign", 1)]) (N := Su.N_is_name) (sc := defScope s_is_name) (by decide +kernel)) (fun _ _ _ _ _ => (pg_name (i := 1) nd rfl (.inl rfl))) (fun _ _ _ _ _ => pts_nil) (fun _ _ _ _ _ => (pe_cmpR op_in_sign (pv 1) (pe_glob (v := .str "abcdefghijklmnopqrstuvwxyz") (by rfl) T.m_LETTERS ⟨_, rfl⟩) rfl))) pa_nil)))))), ?_⟩
    refine s_ret (ev_andV (chain_le' (a := 1) (b := z.length) (c := 12) ev_c (ev_cb (ea_cons (ev_var rfl) ea_nil) (rc_lenS (by omega))) ev_c) fun _ => ev_allSigns (fun c => decide (c ∈ lettersS.cps.toList)) (ev_var rfl) hz (fun _ => rfl) fun c Hb _ => ev_op (ev_var rfl) ev_c rv_inSign) q
end

end Su
namespace Su
theorem given_rng {n : Nat} (v : Nat → V) : given n (fun _ => true) v = (List.range n).map v := by
  unfold given
  rw [List.filter_eq_self.mpr fun _ _ => rfl]

end Su
namespace Su
theorem ev_sumN {K : PySem.W.Frag} {σ : L2.St} {H : Hp} {te : TE} {ns : List Int} (h : EvL te σ H (ns.map V.int)) : Ev (tCB (rSum K) (tCons te tNil)) σ H (.int ns.sum) := fun H1 e Q q =>
  h H1 e _ fun p H2 _ e2 h2 => ⟨p, ns, rfl, sq_of h2, q H2 e2⟩

end Su
namespace Su
/-! ### what is known of a value is its data -/
section
variable {K : PySem.W.Frag} {σ : L2.St} {H : Hp} {te ta tb : TE} {tA : TA} {d : PyData} {ds : List PyData} {v : V} {xs : List V} {i : Int} {D : Ends} {tz : TS}
def EvD (K : PySem.W.Frag) (te : TE) (σ : L2.St) (H : Hp) (d : PyData) : Prop := ∀ H1, Ex H H1 → ∀ Q : VK, (∀ v H2, Ex H1 H2 → Dp K H2 v d → Q v H2) → te σ H1 Q
def EvAD (K : PySem.W.Frag) (ta : TA) (σ : L2.St) (H : Hp) (ds : List PyData) : Prop := ∀ H1, Ex H H1 → ∀ Q : List V → Hp → Prop, (∀ vs H2, Ex H1 H2 → DpAll K H2 vs ds → Q vs H2) → ta σ H1 Q
theorem EvD.mono {H' : Hp} (e : Ex H H') (h : EvD K te σ H d) : EvD K te σ H' d := fun H1 a Q q => h H1 (e.trans a) Q q
theorem evd_v (h : Ev te σ H v) (hd : Dp K H v d) : EvD K te σ H d := fun H1 e Q q => h H1 e _ fun H2 e2 => q v H2 e2 (dp_ex (e.trans e2) hd)
theorem evd_int (h : Ev te σ H (.int i)) : EvD K te σ H (.int i) := evd_v h (.int i)
theorem evd_bl {b : Bool} (h : Ev te σ H (.bl b)) : EvD K te σ H (.bool b) := evd_v h (.bl b)
theorem evd_str {z : Str} (h : Ev te σ H (.str z)) : EvD K te σ H (.str z) := evd_v h (.str z)
theorem evd_L (h : EvL te σ H xs) (hd : DpAll K H xs ds) : EvD K te σ H (.list ds) := fun H1 e Q q => h H1 e _ fun p H2 _ e2 h2 => q _ H2 e2 (.lst (sq_of h2) (dpa_ex (e.trans e2) hd))
theorem evd_U (h : EvU te σ H xs) (hd : DpAll K H xs ds) : EvD K te σ H (.tuple ds) := fun H1 e Q q => h H1 e _ fun p H2 _ e2 h2 => q _ H2 e2 (.tup (st_of h2) (dpa_ex (e.trans e2) hd))
theorem evad_nil : EvAD K tNil σ H [] := fun H1 _ _ q => q [] H1 (Ex.refl H1) .nil
theorem evad_cons {tr : TA} (h : EvD K te σ H d) (hr : EvAD K tr σ H ds) : EvAD K (tCons te tr) σ H (d :: ds) := fun H1 e Q q => h H1 e _ fun v H2 e2 hv => hr H2 (e.trans e2) _ fun vs H3 e3 hvs => q _ H3 (e2.trans e3) (.cons (dp_ex e3 hv) hvs)
theorem evd_lst (h : EvAD K tA σ H ds) (hl : ds.length ≤ 1000 := by simp) : EvD K (tLst tA) σ H (.list ds) := fun H1 e Q q => h H1 e _ fun vs H2 e2 hv => ⟨sz_of (by rw [dpa_len hv]; omega), fun p hp => q _ _ (e2.trans (Ex.new hp)) (.lst (sq_of upd_same) (dpa_ex (Ex.new hp) hv))⟩
theorem evd_tup (h : EvAD K tA σ H ds) (hl : ds.length ≤ 1000 := by simp) : EvD K (tTup tA) σ H (.tuple ds) := fun H1 e Q q => h H1 e _ fun vs H2 e2 hv => ⟨sz_of (by rw [dpa_len hv]; omega), fun p hp => q _ _ (e2.trans (Ex.new hp)) (.tup (st_of upd_same) (dpa_ex (Ex.new hp) hv))⟩
theorem q_asgD {j : Nat} (h : EvD K te σ H d) (k : ∀ v H1, Ex H H1 → Dp K H1 v d → tz D (σ.set j (some v)) H1) : tSeq (tAsg te (gName j)) tz D σ H := h H (Ex.refl H) _ fun v H1 e1 hv => k v H1 e1 hv
theorem ev_sameD {n : Nat} {E : XK} (hp : PlD n d) (h1 : EvD K ta σ H d) (h2 : EvD K tb σ H d) : Ev (tCall (spSame K n) [] E (tCons ta (tCons tb tNil))) σ H (.bl true) := fun H1 e Q q =>
  h1 H1 e _ fun v H2 e2 hv => h2 H2 (e.trans e2) _ fun w H3 e3 hw => spV_same hp (dp_ex e3 hv) hw H3 (Ex.refl _) Q (fun H4 e4 => q H4 ((e2.trans e3).trans e4)) E
theorem et_sameD {n : Nat} {E : XK} (hp : PlD n d) (h1 : EvD K ta σ H d) (h2 : EvD K tb σ H d) : EvT (tB (tCall (spSame K n) [] E (tCons ta (tCons tb tNil)))) σ H true := et_B (ev_sameD hp h1 h2)
theorem dpa_intsV {ns : List Int} : DpAll K H (ns.map V.int) (ns.map PyData.int) := dpa_of V.int PyData.int ns fun i _ => .int i
theorem eu_tupOf {p : Addr} (ha : Ev te σ H (.ref p)) (h : SqL K H p xs) : EvU (tCB (fun xs H Q => ∃ p ys, xs = [V.ref p] ∧ ((SqL K H p ys ∧ ∀ l, H l = none → Q (.ref l) (upd H l (.tup ys))) ∨ (SqT K H p ys ∧ Q (.ref p) H))) (tCons te tNil)) σ H xs := fun H0 e Q q =>
  ha H0 e _ fun H1 e1 => ⟨p, xs, rfl, .inl ⟨ex_l (e.trans e1) h, fun l hl => q l _ (fresh_back e1 hl) (e1.trans (Ex.new hl)) upd_same⟩⟩
theorem rc_intB {b : Bool} : RC (fun xs H Q => (∃ i, xs = [V.int i] ∧ Q (.int i) H) ∨ ∃ k, xs = [V.bl k] ∧ Q (.int (if k = true then 1 else 0)) H) [.bl b] H (.int (if b = true then 1 else 0)) := fun H1 _ _ q => .inr ⟨b, rfl, q H1 (Ex.refl H1)⟩
theorem pld_ints {n : Nat} {ns : List Int} (h : ns.length ≤ 1000) : PlD (n + 1) (.list (ns.map PyData.int)) := .list (by rw [List.length_map]; exact h) fun x hx => by
  obtain ⟨z, _, rfl⟩ := List.mem_map.mp hx
  exact .int z
/-- {a: x, b: y, c: z}[k] -/
theorem ev_dsel {a1 a2 a3 k : Str} {t1 t2 t3 tk : TE} {v1 v2 v3 : V} (h1 : Ev t1 σ H v1) (h2 : Ev t2 σ H v2) (h3 : Ev t3 σ H v3) (hk : Ev tk σ H (.str k)) (n12 : ¬ a1 = a2) (n13 : ¬ a1 = a3) (n23 : ¬ a2 = a3) (hv : (if k = a1 then some v1 else if k = a2 then some v2 else if k = a3 then some v3 else none) = some v) :
    Ev (tDGet (tDisp [(tC (.str a1), t1), (tC (.str a2), t2), (tC (.str a3), t3)]) tk) σ H v := fun H0 e Q q => fun p hp => by
  refine h1 _ (e.trans (Ex.new hp)) _ fun H1 e1 => h2 H1 ((e.trans (Ex.new hp)).trans e1) _ fun H2 e2 => h3 H2 (((e.trans (Ex.new hp)).trans e1).trans e2) _ fun H3 e3 => ?_
  have e03 : Ex (upd H0 p (.dK [])) H3 := (e1.trans e2).trans e3
  refine ⟨e03 _ _ upd_same, [(.inr a1, v1), (.inr a2, v2), (.inr a3, v3)], rfl, by show 3 ≤ 15; decide, ?_⟩
  have em : mergeK [] [(Sum.inr a1, v1), (Sum.inr a2, v2), (Sum.inr a3, v3)] = [((Sum.inr a1 : Key), v1), (.inr a2, v2), (.inr a3, v3)] := by
    have i12 : ¬ (Sum.inr a1 : Key) = .inr a2 := fun z => n12 (Sum.inr.inj z)
    have i13 : ¬ (Sum.inr a1 : Key) = .inr a3 := fun z => n13 (Sum.inr.inj z)
    have i23 : ¬ (Sum.inr a2 : Key) = .inr a3 := fun z => n23 (Sum.inr.inj z)
    unfold mergeK
    simp [putK, i12, i13, i23]
  have ex : Ex H0 (upd H3 p (.dK (mergeK [] [(Sum.inr a1, v1), (Sum.inr a2, v2), (Sum.inr a3, v3)]))) := Ex.mut ((Ex.new hp).trans e03) hp
  refine hk _ (e.trans ex) _ fun H4 e4 => ⟨p, v, rfl, ?_, q H4 (ex.trans e4)⟩
  refine .inl ⟨_, .inr k, .inl (e4 _ _ upd_same), rfl, ?_⟩
  rw [em]
  unfold valV
  by_cases c1 : k = a1
  · rw [if_pos c1] at hv
    subst c1
    simp [← hv]
  · rw [if_neg c1] at hv
    have d1 : ¬ (Sum.inr a1 : Key) = .inr k := fun z => c1 (Sum.inr.inj z).symm
    by_cases c2 : k = a2
    · rw [if_pos c2] at hv
      subst c2
      simp [d1, ← hv]
    · rw [if_neg c2] at hv
      have d2 : ¬ (Sum.inr a2 : Key) = .inr k := fun z => c2 (Sum.inr.inj z).symm
      by_cases c3 : k = a3
      · rw [if_pos c3] at hv
        subst c3
        simp [d1, d2, ← hv]
      · rw [if_neg c3] at hv
        cases hv
end

end Su
namespace Su
/-! ### a row of five values and two lists; two values are the same, raw -/
section
variable {K : PySem.W.Frag} {σ : L2.St} {H : Hp}
theorem te_row {t1 t2 t3 t4 t5 ta tb : TE} {v1 v2 v3 v4 v5 : V} {xs ys : List V} {Q : VK} (h1 : Ev t1 σ H v1) (h2 : Ev t2 σ H v2) (h3 : Ev t3 σ H v3) (h4 : Ev t4 σ H v4) (h5 : Ev t5 σ H v5) (ha : EvL ta σ H xs) (hb : EvL tb σ H ys)
    (k : ∀ p f g H1, H p = none → H f = none → H g = none → Ex H H1 → H1 p = some (.tup [v1, v2, v3, v4, v5, .ref f, .ref g]) → H1 f = some (.lst xs) → H1 g = some (.lst ys) → Q (.ref p) H1) : tTup (tCons t1 (tCons t2 (tCons t3 (tCons t4 (tCons t5 (tCons ta (tCons tb tNil))))))) σ H Q :=
  h1 H (Ex.refl H) _ fun H1 e1 => h2 H1 e1 _ fun H2 e2 => h3 H2 (e1.trans e2) _ fun H3 e3 => h4 H3 ((e1.trans e2).trans e3) _ fun H4 e4 => h5 H4 (((e1.trans e2).trans e3).trans e4) _ fun H5 e5 => by
    have e05 := (((e1.trans e2).trans e3).trans e4).trans e5
    refine ha H5 e05 _ fun f H6 hf e6 h6 => ?_
    have e06 := e05.trans e6
    refine hb H6 e06 _ fun g H7 hg e7 h7 => ?_
    exact ⟨sz_of (by show 7 ≤ 100000; decide), fun p hp => k p f g _ (fresh_back (e06.trans e7) hp) (fresh_back e05 hf) (fresh_back e06 hg) ((e06.trans e7).trans (Ex.new hp)) upd_same ((e7.trans (Ex.new hp)) _ _ h6) ((Ex.new hp) _ _ h7)⟩
theorem q_sameX {n : Nat} {tm tb : TE} {E : XK} {tA tz : TS} {D : Ends} (k : tm σ H fun v H1 => tb σ H1 fun w H2 => spSame K n [v, w] H2 (fun r H3 => ∃ c, r = .bl c ∧ (if (!c) = true then tA { D with nx := tz D } σ H3 else tz D σ H3)) E) : tSeq (tIfS (tNot (tB (tCall (spSame K n) [] E (tCons tm (tCons tb tNil))))) tA tNext) tz D σ H := k
theorem s_sameX {n : Nat} {tm tb : TE} {E : XK} {tA : TS} {D : Ends} (k : tm σ H fun v H1 => tb σ H1 fun w H2 => spSame K n [v, w] H2 (fun r H3 => ∃ c, r = .bl c ∧ (if (!c) = true then tA D σ H3 else D.nx σ H3)) E) : tIfS (tNot (tB (tCall (spSame K n) [] E (tCons tm (tCons tb tNil))))) tA tNext D σ H := k
theorem same_fin {n : Nat} {v w : V} {d : PyData} {E : XK} {A B : Hp → Prop} (hp : PlD n d) (h1 : Dp K H v d) (h2 : Dp K H w d) (k : ∀ H3, Ex H H3 → B H3) : spSame K n [v, w] H (fun r H3 => ∃ c, r = .bl c ∧ (if (!c) = true then A H3 else B H3)) E := ⟨v, w, d, rfl, hp, h1, h2, fun H3 e => ⟨true, rfl, k H3 e⟩⟩
theorem q_forL1 {tl : TE} {g : TG} {tb tz : TS} {D : Ends} {Pc : Addr → Hp → Prop} (hcall : ∀ Q : VK, (∀ p H1, Pc p H1 → Q (.ref p) H1) → tl σ H Q) (k : ∀ p H1, Pc p H1 → tSeq (tFor (iList K (tC (.ref p))) g tb) tz D σ H1) : tSeq (tFor (iList K tl) g tb) tz D σ H := hcall _ fun p H1 h => k p H1 h
end

end Su
namespace Su
theorem ev_sumV {K : PySem.W.Frag} {σ : L2.St} {H : Hp} {ta : TE} {l : Addr} {ns : List Int} (ha : Ev ta σ H (.ref l)) (hl : SqL K H l (ns.map V.int)) : Ev (tCB (rSum K) (tCons ta tNil)) σ H (.int ns.sum) := fun H1 e Q q =>
  ha H1 e _ fun H2 e2 => ⟨l, ns, rfl, ex_l (e.trans e2) hl, q H2 e2⟩

end Su
namespace Su
/-! ### o[i] += e of a list; [e] * n -/
section
variable {X : Cx}
def rGetL (K : PySem.W.Frag) : V → V → Hp → VK → Prop := fun x y H Q => ∃ p xs i v, x = .ref p ∧ y = .int i ∧ 0 ≤ i ∧ SqL K H p xs ∧ atI xs i = some v ∧ Q v H
theorem get_list : PGet X (rGetL X.K) := by
  intro pins s σ H x y v u Q I rx ry h
  obtain ⟨p, xs, i, z, rfl, rfl, h0, hq, he, q⟩ := h
  cases rx
  obtain ⟨t, rfl⟩ := ry
  obtain ⟨its, r, pl, hz⟩ := I.list hq
  obtain ⟨j, h1, h2, h3, h4, h5⟩ := atI_get he
  obtain ⟨w, ew, rw'⟩ := r.get h2
  have hl := r.length
  have hn := line63
  have hj : i.toNat = j := by
    rw [seqIndex_of h0 h5] at h1
    exact Option.some.inj h1
  exact wpAny_getItem_list pl.isList h0 (by omega) (by rw [hj]; simpa using ew) ⟨z, H, I, rw', q⟩
end
theorem q_augL {to ti te : TE} {K : PySem.W.Frag} {σ : L2.St} {H : Hp} {D : Ends} {tz : TS} {l : Addr} {xs : List V} {z a b : Int} {j : Nat} {f : Int → Int → Int} (hl : H l = some (.lst xs)) (ho : Ev to σ H (.ref l)) (hi : Ev ti σ H (.int z)) (hz : z = (j : Int)) (hx : xs[j]? = some (.int a)) (h : Ev te σ H (.int b))
    (k : ∀ H1, Ex H H1 → tz D σ (upd H1 l (.lst (xs.set j (.int (f a b)))))) : tSeq (tAugS to ti te (rGetL K) (ipI f) rSetL) tz D σ H := by
  have hj : j < xs.length := (List.getElem?_eq_some_iff.mp hx).1
  refine ho H (Ex.refl H) _ fun H1 e1 => hi H1 e1 _ fun H2 e2 => ?_
  refine ⟨l, xs, z, .int a, rfl, rfl, by omega, sq_of (e2 l _ (e1 l _ hl)), at_of hz hx, h H2 (e1.trans e2) _ fun H3 e3 => ?_⟩
  refine ⟨a, b, rfl, rfl, l, xs, z, j, rfl, rfl, e3 l _ (e2 l _ (e1 l _ hl)), ?_, k H3 ((e1.trans e2).trans e3)⟩
  rw [hz]
  exact ixN_nat hj
theorem st_lastAugL {to ti te : TE} {K : PySem.W.Frag} {σ : L2.St} {H : Hp} {D : Ends} {l : Addr} {xs : List V} {z a b : Int} {j : Nat} {f : Int → Int → Int} (hl : H l = some (.lst xs)) (ho : Ev to σ H (.ref l)) (hi : Ev ti σ H (.int z)) (hz : z = (j : Int)) (hx : xs[j]? = some (.int a)) (h : Ev te σ H (.int b))
    (k : ∀ H1, Ex H H1 → D.nx σ (upd H1 l (.lst (xs.set j (.int (f a b)))))) : tAugS to ti te (rGetL K) (ipI f) rSetL D σ H := q_augL (D := D) (tz := fun D' σ' H' => D'.nx σ' H') hl ho hi hz hx h k
theorem flat1 {v : V} : ∀ n : Nat, (List.replicate n [v]).flatten = List.replicate n v
  | 0 => rfl
  | n + 1 => by rw [List.replicate_succ, List.replicate_succ, List.flatten_cons, flat1 n]; rfl
theorem el_rep1 {ta tb : TE} {σ : L2.St} {H : Hp} {v : V} {k : Int} (ha : EvL ta σ H [v]) (hb : Ev tb σ H (.int k)) (h0 : 0 ≤ k) (h1 : k ≤ 100000) : EvL (tOp rRep ta tb) σ H (List.replicate k.toNat v) := fun H1 e Q q =>
  ha H1 e _ fun p H2 hp e2 h2 => hb H2 (e.trans e2) _ fun H3 e3 => ⟨p, k, [v], rfl, rfl, e3 p _ h2, by omega, by omega, sz_of (by show 1 * k.toNat ≤ _; omega), fun r hr => by
    rw [flat1]
    exact q r _ (fresh_back (e2.trans e3) hr) ((e2.trans e3).trans (Ex.new hr)) upd_same⟩

end Su
namespace Su
theorem ev_ixN {K : PySem.W.Frag} {te tb : TE} {σ : L2.St} {H : Hp} {xs : List V} {z : Int} {v : V} (h : EvL te σ H xs) (hb : Ev tb σ H (.int z)) (hz : atI xs z = some v) : Ev (tOp (rIxL K) te tb) σ H v := fun H1 e Q q =>
  h H1 e _ fun p H2 _ e2 h2 => hb H2 (e.trans e2) _ fun H3 e3 => rv_ixL (sq_of (e3 _ _ h2)) hz H3 (Ex.refl _) _ fun H4 e4 => q H4 ((e2.trans e3).trans e4)

end Su
namespace Su
theorem el_cat {ta tb : TE} {σ : L2.St} {H : Hp} {xs ys : List V} (ha : EvL ta σ H xs) (hb : EvL tb σ H ys) (hz : xs.length + ys.length ≤ 100000) : EvL (tOp rCat ta tb) σ H (xs ++ ys) := fun H1 e Q q =>
  ha H1 e _ fun p H2 hp e2 h2 => hb H2 (e.trans e2) _ fun p2 H3 hp3 e3 h3 => ⟨p, p2, xs, ys, rfl, rfl, e3 p _ h2, h3, sz_of hz, fun r hr => q r _ (fresh_back (e2.trans e3) hr) ((e2.trans e3).trans (Ex.new hr)) upd_same⟩

end Su
namespace Su
theorem q_par {i j : Nat} {ta : TA} {σ : L2.St} {H : Hp} {D : Ends} {tz : TS} {v w : V} (h : EvA ta σ H [v, w]) (k : ∀ H1, Ex H H1 → tz D ((σ.set i (some v)).set j (some w)) H1) : tSeq (tPar i j ta) tz D σ H := h H (Ex.refl H) _ fun H1 e1 => ⟨v, w, rfl, k H1 e1⟩

end Su
namespace Su
/-! ### a method's call whose exceptions are wanted by the slots -/
def tMethW (C : Addr) (m : Str) (sp : Sp) (E : L2.St → XK) (ta : TE) (t : TA) : TE := fun σ H Q => ta σ H fun y H1 => ∃ c dc gs, y = .ref c ∧ H1 c = some (.ins C dc gs) ∧ gs.lookup m = none ∧ t σ H1 fun vs H2 => sp (y :: vs) H2 Q (E σ)
section
variable {X : Cx} {CX : CXT} {k : Nat} {f C : Addr} {fd : FuncData} {ps : List Str} {sp : Sp} {E : L2.St → XK} {m : Str} {pos apos : Pos} {e o : Expr} {es : List Expr} {ta : TE} {t : TA}
theorem pe_methW {pl : Sem Bool} (hO : PE X o ta) (cl : Cls X.K C) (mt : Meth X.K C m f) (F : FnOk X.prog X.w X.K X.mg X.base CX k f fd ps sp) (room : Room k X.A) (bd : Binds X.K fd ps []) (hx : ∀ σ, PassesAt CX X σ (E σ)) (hA : PA X (e :: es) t)
    (hs : starEach (e :: es) X.env = (false, eval e X.env) :: starEach es X.env := by rfl) (hl : (backTo pos (starEach es X.env)).any (·.1) = false := by rfl)
    (hev : eval (.Call (.Attribute o m apos) (e :: es) [] pos) X.env = (do
      let rcv ← eval o X.env
      standAt apos.atName
      let (g0, a0) ← holding [rcv] (getMethod rcv m pl)
      callWith pos g0 a0 (backTo pos (starEach (e :: es) X.env)) (backToKw pos (keywordEach [] X.env))) := by rfl) :
    PE X (.Call (.Attribute o m apos) (e :: es) [] pos) (tMethW C m sp E ta t) := by
  constructor
  intro pins s σ H Q J hq
  refine PySem.W.methodCall_KW (pl := pl) (thn (hO.run pins s σ H _ J hq) fun u s1 z => ?_) hev
  obtain ⟨y, H1, J1, ry, c, dc, gs, rfl, hc, hg, hq1⟩ := z
  obtain rfl : u = Value.ref c := ry
  refine getmeth_ok J1 hc cl mt hg ?_
  refine PySem.W.callWith_K (first := [.ref c]) (h₀ := X.base) J.ok.mod.kin mt.kp (thn (hA.run pos pins s1 σ H1 _ J1 hq1) fun us s2 z => ?_) hs hl
  obtain ⟨vs, H2, J2, rvs, hq2⟩ := z
  exact ⟨J2.kIn, run_fnS (us := .ref c :: us) (vs := .ref c :: vs) F room bd (hx σ) J2 (.cons rfl rvs) hq2⟩
theorem pe_methW0 {pl : Sem Bool} (hO : PE X o ta) (cl : Cls X.K C) (mt : Meth X.K C m f) (F : FnOk X.prog X.w X.K X.mg X.base CX k f fd ps sp) (room : Room k X.A) (bd : Binds X.K fd ps []) (hx : ∀ σ, PassesAt CX X σ (E σ))
    (hev : eval (.Call (.Attribute o m apos) [] [] pos) X.env = (do
      let rcv ← eval o X.env
      standAt apos.atName
      let (g0, a0) ← holding [rcv] (getMethod rcv m pl)
      callWith pos g0 a0 (backTo pos (starEach [] X.env)) (backToKw pos (keywordEach [] X.env))) := by rfl) :
    PE X (.Call (.Attribute o m apos) [] [] pos) (tMethW C m sp E ta tNil) := by
  constructor
  intro pins s σ H Q J hq
  refine PySem.W.methodCall_KW (pl := pl) (thn (hO.run pins s σ H _ J hq) fun u s1 z => ?_) hev
  obtain ⟨y, H1, J1, ry, c, dc, gs, rfl, hc, hg, hq1⟩ := z
  obtain rfl : u = Value.ref c := ry
  refine getmeth_ok J1 hc cl mt hg ?_
  exact PySem.W.callWith_K0 (first := [.ref c]) J1.kIn mt.kp (run_fnS (us := [.ref c]) (vs := [.ref c]) F room bd (hx σ) J1 (.cons rfl .nil) hq1)
end
section
variable {K : PySem.W.Frag} {σ : L2.St} {H : Hp} {C a dx : Addr} {m : Str} {sp : Sp} {ta : TE} {t : TA} {fs : List (Str × V)} {vs : List V} {W : WX} {Q : VK}
theorem te_methW (h : Ev ta σ H (.ref a)) (ha : H a = some (.ins C dx fs)) (hm : fs.lookup m = none) (hA : EvA t σ H vs) (k : ∀ H1, Ex H H1 → sp (.ref a :: vs) H1 Q (WE W σ)) : tMethW C m sp (WE W) ta t σ H Q :=
  h H (Ex.refl H) _ fun H1 e1 => ⟨a, dx, fs, rfl, e1 _ _ ha, hm, hA H1 e1 _ fun H2 e2 => k H2 (e1.trans e2)⟩
theorem s_asgX {i : Nat} {D : Ends} {te : TE} (k : te σ H fun v H1 => D.nx (σ.set i (some v)) H1) : tAsg te (gName i) D σ H := k
theorem s_dropX {D : Ends} {te : TE} (k : te σ H fun _ H1 => D.nx σ H1) : tDrop te D σ H := k
theorem te_fldR {f : Str} (k : ∀ Q' : VK, ta σ H Q') : tFld K ta f σ H Q := k _
end

end Su
namespace Su
theorem lay_of_shaped {d : PyData} (h : SeqAt.shaped d = true) : d.canLay0 = true := (Bool.and_eq_true_iff.mp h).1

end Su
namespace Su
theorem rv_neD {K : PySem.W.Frag} {H : Hp} {x y : V} {d : PyData} (h1 : Dp K H x d) (h2 : Dp K H y d) (hs : SeqAt.shaped d = true) : RV (rNeD K) x y H (.bl false) := fun H1 e Q q =>
  ⟨d, d, dp_ex e h1, dp_ex e h2, hs, hs, by rw [SeqAt.eqv_refl d (lay_of_shaped hs)]; exact q H1 (Ex.refl H1)⟩

end Su
namespace Su
theorem shaped_bools (bs : List Bool) : SeqAt.shaped (boolD bs) = true := by
  have h1 : ∀ l : List Bool, PyData.canLayAll0 (l.map .bool) = true := by
    intro l
    induction l with
    | nil => simp [PyData.canLayAll0]
    | cons a r ih => simp [PyData.canLayAll0, PyData.canLay0, ih]
  have h2 : ∀ l : List Bool, PyData.depthAll (l.map .bool) = 0 := by
    intro l
    induction l with
    | nil => simp [PyData.depthAll]
    | cons a r ih => simp [PyData.depthAll, PyData.depth, ih]
  unfold SeqAt.shaped boolD
  rw [Bool.and_eq_true]
  refine ⟨?_, ?_⟩
  · simp only [PyData.canLay0]
    exact h1 bs
  · simp only [PyData.depth]
    have := h2 bs
    exact decide_eq_true (by omega)

end Su
namespace Su
/-! ### all but F stays, tables too -/
structure FrT (F : List Addr) (H H' : Hp) : Prop where
  fr : Fr F H H'
  tb : ∀ a ps, H a = some (.tbl ps) → a ∉ F → H' a = some (.tbl ps)
instance {F : List Addr} {H H' : Hp} : CoeFun (FrT F H H') (fun _ => ∀ a o, H a = some o → (∀ ps, o ≠ .tbl ps) → a ∉ F → H' a = some o) := ⟨FrT.fr⟩
theorem FrT.ex {F : List Addr} {H H' : Hp} (e : Ex H H') : FrT F H H' := ⟨Fr.ex e, fun a _ h _ => e a _ h⟩
theorem FrT.trans {F : List Addr} {H H1 H2 : Hp} (a : FrT F H H1) (b : FrT F H1 H2) : FrT F H H2 := ⟨a.fr.trans b.fr, fun x ps h hx => b.tb x ps (a.tb x ps h hx) hx⟩
theorem FrT.mono {F G : List Addr} {H H' : Hp} (a : FrT F H H') (h : ∀ x ∈ F, x ∈ G) : FrT G H H' := ⟨a.fr.mono h, fun x ps hx hg => a.tb x ps hx fun z => hg (h x z)⟩
theorem FrT.upd {F : List Addr} {H H' : Hp} {p : Addr} {o : HO} (a : FrT F H H') (h : p ∈ F) : FrT F H (L2.upd H' p o) := ⟨a.fr.upd h, fun x ps hx hf => by
  have hne : x ≠ p := fun z => hf (by rw [z]; exact h)
  rw [upd_ne hne]
  exact a.tb x ps hx hf⟩
theorem FrT.by_ {F : List Addr} {H H' : Hp} (h : ∀ b u, H b = some u → b ∉ F → H' b = some u) : FrT F H H' := ⟨fun a o ha _ hn => h a o ha hn, fun a ps ha hn => h a _ ha hn⟩
theorem tabs_frT {T : List (Addr × Str)} {F : List Addr} {H H' : Hp} (t : LamX.Tabs T H) (f : FrT F H H') (hF : ∀ x ∈ F, ∀ o, H x = some o → (∀ ps, o ≠ .tbl ps) ∧ ∀ c q, o ≠ LamX.CodeO c q) : LamX.Tabs T H' := fun q hq => by
  obtain ⟨ps, h1, h2, h3⟩ := t q hq
  refine ⟨ps, f.tb _ _ h1 (fun z => (hF _ z _ h1).1 ps rfl), h2, fun pos cv hc => ?_⟩
  obtain ⟨c, e1, e2⟩ := h3 pos cv hc
  exact ⟨c, e1, f.fr c _ e2 (fun ps z => by unfold LamX.CodeO at z; cases z) (fun z => (hF _ z _ e2).2 _ _ rfl)⟩
/-! ### the books: what they hold (BookM), where it lies (BookD) -/
structure Mem where
  nm : Str
  a : Addr
  num : Int
  coins : Int
structure TrE where
  a : Addr
  sh : Str
  nm : Str
  was : V
structure BookM where
  mems : List Mem
  tabs : List (Str × Addr)
  brought : Int
  trail : List TrE
structure BookD where
  b : Addr
  dx : Addr
  sh : Addr
  ms : Addr
  ts : Addr
  ss : Addr
  tr : Addr
def Mem.kv (m : Mem) : Key × V := (.inr m.nm, .ref m.a)
def tabKv (t : Str × Addr) : Key × V := (.inr t.1, .ref t.2)
abbrev membersS : Str := Str.ofString "members"
abbrev tablesS : Str := Str.ofString "tables"
abbrev sumsS : Str := Str.ofString "sums"
abbrev broughtS : Str := Str.ofString "brought"
def BookD.shelves (d : BookD) : List (Key × V) := [(.inr membersS, .ref d.ms), (.inr tablesS, .ref d.ts), (.inr sumsS, .ref d.ss)]
def BookD.mut (d : BookD) : List Addr := [d.ms, d.ts, d.ss, d.tr]
structure BookAt (C : Addr) (H : Hp) (d : BookD) (M : BookM) : Prop where
  hb : H d.b = some (.ins C d.dx [("shelves", .ref d.sh), ("trail", .ref d.tr)])
  hsh : H d.sh = some (.dK d.shelves)
  hms : H d.ms = some (.dK (M.mems.map Mem.kv))
  hmt : ∀ m ∈ M.mems, H m.a = some (.tup [.int m.num, .int m.coins])
  nd : (M.mems.map Mem.nm).Nodup
  hts : H d.ts = some (.dK (M.tabs.map tabKv))
  hss : H d.ss = some (.dK [(.inr broughtS, .int M.brought)])
  htr : H d.tr = some (.lst (M.trail.map fun t => .ref t.a))
  htt : ∀ t ∈ M.trail, H t.a = some (.tup [.str t.sh, .str t.nm, t.was])
  ne : d.ms ≠ d.ts ∧ d.ms ≠ d.ss ∧ d.ts ≠ d.ss ∧ d.sh ≠ d.ms ∧ d.sh ≠ d.ts ∧ d.sh ≠ d.ss
section
variable {C : Addr} {H H' : Hp} {d : BookD} {M : BookM}
theorem BookAt.ex (h : BookAt C H d M) (e : Ex H H') : BookAt C H' d M := ⟨e _ _ h.hb, e _ _ h.hsh, e _ _ h.hms, fun m hm => e _ _ (h.hmt m hm), h.nd, e _ _ h.hts, e _ _ h.hss, e _ _ h.htr, fun t ht => e _ _ (h.htt t ht), h.ne⟩
theorem BookAt.exN (h : BookAt C H d M) (e : LamX.ExtN H H') : BookAt C H' d M := ⟨e _ _ h.hb (fun _ z => nomatch z), e _ _ h.hsh (fun _ z => nomatch z), e _ _ h.hms (fun _ z => nomatch z), fun m hm => e _ _ (h.hmt m hm) (fun _ z => nomatch z), h.nd, e _ _ h.hts (fun _ z => nomatch z), e _ _ h.hss (fun _ z => nomatch z), e _ _ h.htr (fun _ z => nomatch z), fun t ht => e _ _ (h.htt t ht) (fun _ z => nomatch z), h.ne⟩
theorem inr_inj {a b : Str} : decide ((Sum.inr a : Key) = Sum.inr b) = decide (a = b) := by
  by_cases h : a = b
  · rw [h, decide_eq_true rfl, decide_eq_true rfl]
  · rw [decide_eq_false h, decide_eq_false fun z => h (Sum.inr.inj z)]
def BookM.mem? (M : BookM) (nm : Str) : Option Mem := M.mems.find? fun m => decide (m.nm = nm)
theorem valV_kv {α : Type} (f : α → Str) (g : α → V) (l : List α) (nm : Str) : valV (l.map fun a => ((Sum.inr (f a) : Key), g a)) (.inr nm) = (l.find? fun a => decide (f a = nm)).map g := by
  unfold valV
  rw [List.find?_map, Option.map_map]
  have : ((fun kv : Key × V => decide (kv.1 = Sum.inr nm)) ∘ fun a => ((Sum.inr (f a) : Key), g a)) = fun a => decide (f a = nm) := funext fun a => inr_inj
  rw [this]
  rfl
theorem valV_mems (M : BookM) (nm : Str) : valV (M.mems.map Mem.kv) (.inr nm) = (M.mem? nm).map fun m => .ref m.a := valV_kv Mem.nm (fun m => .ref m.a) M.mems nm
theorem valV_tabs (M : BookM) (nm : Str) : valV (M.tabs.map tabKv) (.inr nm) = (M.tabs.find? fun t => decide (t.1 = nm)).map fun t => .ref t.2 := valV_kv Prod.fst (fun t => .ref t.2) M.tabs nm
theorem BookM.mem?_mem {nm : Str} {m : Mem} (h : M.mem? nm = some m) : m ∈ M.mems ∧ m.nm = nm := ⟨List.mem_of_find?_eq_some h, by have := List.find?_some h; simpa using this⟩
theorem BookM.mem?_none {nm : Str} (h : M.mem? nm = none) : nm ∉ M.mems.map Mem.nm := fun hm => by
  obtain ⟨m, hm', rfl⟩ := List.mem_map.mp hm
  have := List.find?_eq_none.mp h m hm'
  simp at this
theorem putK_new {kvs : List (Key × V)} {k : Key} {v : V} (h : valV kvs k = none) : putK kvs k v = kvs ++ [(k, v)] := by
  unfold putK
  have hn : (kvs.any fun kv => decide (kv.1 = k)) = false := by
    unfold valV at h
    rw [Option.map_eq_none_iff] at h
    rw [List.any_eq_false]
    intro x hx
    exact List.find?_eq_none.mp h x hx
  rw [hn]
  rfl
theorem putK_old {α : Type} (f : α → Str) (g : α → V) (l : List α) {nm : Str} {v : V} (h : (l.find? fun a => decide (f a = nm)).isSome = true) : putK (l.map fun a => ((Sum.inr (f a) : Key), g a)) (.inr nm) v = l.map fun a => if f a = nm then (.inr (f a), v) else (.inr (f a), g a) := by
  unfold putK
  have hy : ((l.map fun a => ((Sum.inr (f a) : Key), g a)).any fun kv => decide (kv.1 = Sum.inr nm)) = true := by
    rw [List.any_map, List.any_eq_true]
    obtain ⟨a, ha⟩ := Option.isSome_iff_exists.mp h
    exact ⟨a, List.mem_of_find?_eq_some ha, by have := List.find?_some ha; simpa using this⟩
  rw [if_pos hy, List.map_map]
  apply List.map_congr_left
  intro a _
  show (if (Sum.inr (f a) : Key) = Sum.inr nm then _ else _) = _
  by_cases e : f a = nm
  · rw [if_pos e, if_pos (by rw [e])]
  · rw [if_neg e, if_neg fun z => e (Sum.inr.inj z)]
theorem dropK_kv {α : Type} (f : α → Str) (g : α → V) (l : List α) (nm : Str) : dropK (l.map fun a => ((Sum.inr (f a) : Key), g a)) (.inr nm) = (l.filter fun a => decide (f a ≠ nm)).map fun a => (.inr (f a), g a) := by
  unfold dropK
  rw [List.filter_map]
  congr 1
  apply List.filter_congr
  intro a _
  show decide ((Sum.inr (f a) : Key) ≠ Sum.inr nm) = decide (f a ≠ nm)
  by_cases e : f a = nm
  · rw [decide_eq_false (by simp [e]), decide_eq_false (by simp [e])]
  · rw [decide_eq_true (by simp [e]), decide_eq_true (by simp [e])]
/-- what the deeds on members make of the books -/
def BookM.addMember (M : BookM) (nm : Str) (a p : Addr) : BookM := { M with mems := M.mems ++ [⟨nm, a, M.trail.length, 0⟩], trail := M.trail ++ [⟨p, membersS, nm, .non⟩] }
def BookM.dropMember (M : BookM) (m : Mem) (p : Addr) : BookM := { M with mems := M.mems.filter (fun x => decide (x.nm ≠ m.nm)), trail := M.trail ++ [⟨p, membersS, m.nm, .ref m.a⟩] }
def BookM.addCoins (M : BookM) (m : Mem) (c : Int) (a p : Addr) : BookM := { M with mems := M.mems.map (fun x => if x.nm = m.nm then ⟨x.nm, a, m.num, m.coins + c⟩ else x), trail := M.trail ++ [⟨p, membersS, m.nm, .ref m.a⟩] }
def BookM.addBrought (M : BookM) (c : Int) (p : Addr) : BookM := { M with brought := M.brought + c, trail := M.trail ++ [⟨p, sumsS, broughtS, .int M.brought⟩] }
/-- behind a change of the members' shelf, of the sum, of the tables' shelf; and of the trail -/
theorem BookAt.setMem {H2 : Hp} {nm : Str} {was : V} {p : Addr} {mems : List Mem} (h : BookAt C H d M) (kp : ∀ b o, b ≠ d.tr → H b = some o → H2 b = some o) (tr : H2 d.tr = some (.lst ((M.trail.map fun t => V.ref t.a) ++ [.ref p])))
    (hp : H2 p = some (.tup [.str membersS, .str nm, was])) (hm : ∀ m ∈ mems, H2 m.a = some (.tup [.int m.num, .int m.coins])) (nd : (mems.map Mem.nm).Nodup) :
    BookAt C (upd H2 d.ms (.dK (mems.map Mem.kv))) d { M with mems := mems, trail := M.trail ++ [⟨p, membersS, nm, was⟩] } := by
  obtain ⟨n1, n2, n3, n4, n5, n6⟩ := h.ne
  have m2 : H2 d.ms = some (.dK (M.mems.map Mem.kv)) := kp _ _ (fun z => by have := h.htr; rw [← z, h.hms] at this; cases this) h.hms
  have stay : ∀ b o, H2 b = some o → (∀ kvs, o ≠ .dK kvs) → (upd H2 d.ms (.dK (mems.map Mem.kv))) b = some o := fun b o hb nk => by
    rw [upd_ne (fun z => by rw [z, m2] at hb; exact nk _ (Option.some.inj hb).symm)]
    exact hb
  have nt : ∀ b o, H b = some o → (∀ l, o ≠ .lst l) → b ≠ d.tr := fun b o hb nl z => by rw [z, h.htr] at hb; exact nl _ (Option.some.inj hb).symm
  have dict : ∀ b kvs, H b = some (.dK kvs) → b ≠ d.ms → (upd H2 d.ms (.dK (mems.map Mem.kv))) b = some (.dK kvs) := fun b kvs hb nb => by
    rw [upd_ne nb]
    exact kp _ _ (nt _ _ hb fun _ z => nomatch z) hb
  refine ⟨stay _ _ (kp _ _ (nt _ _ h.hb fun _ z => nomatch z) h.hb) (fun _ z => nomatch z), dict _ _ h.hsh n4, upd_same, fun m hm' => stay _ _ (hm m hm') (fun _ z => nomatch z), nd, dict _ _ h.hts n1.symm, dict _ _ h.hss n2.symm, ?_, fun t ht => ?_, h.ne⟩
  · rw [List.map_append]
    exact stay _ _ tr (fun _ z => nomatch z)
  · rcases List.mem_append.mp ht with ht | ht
    · exact stay _ _ (kp _ _ (nt _ _ (h.htt t ht) fun _ z => nomatch z) (h.htt t ht)) (fun _ z => nomatch z)
    · obtain rfl := List.mem_singleton.mp ht
      exact stay _ _ hp (fun _ z => nomatch z)
theorem BookAt.setSum {H2 : Hp} {p : Addr} {b : Int} (h : BookAt C H d M) (kp : ∀ b o, b ≠ d.tr → H b = some o → H2 b = some o) (tr : H2 d.tr = some (.lst ((M.trail.map fun t => V.ref t.a) ++ [.ref p]))) (hp : H2 p = some (.tup [.str sumsS, .str broughtS, .int M.brought])) :
    BookAt C (upd H2 d.ss (.dK [(.inr broughtS, .int b)])) d { M with brought := b, trail := M.trail ++ [⟨p, sumsS, broughtS, .int M.brought⟩] } := by
  obtain ⟨n1, n2, n3, n4, n5, n6⟩ := h.ne
  have m2 : H2 d.ss = some (.dK [(.inr broughtS, .int M.brought)]) := kp _ _ (fun z => by have := h.htr; rw [← z, h.hss] at this; cases this) h.hss
  have stay : ∀ q o, H2 q = some o → (∀ kvs, o ≠ .dK kvs) → (upd H2 d.ss (.dK [(.inr broughtS, .int b)])) q = some o := fun q o hb nk => by
    rw [upd_ne (fun z => by rw [z, m2] at hb; exact nk _ (Option.some.inj hb).symm)]
    exact hb
  have nt : ∀ q o, H q = some o → (∀ l, o ≠ .lst l) → q ≠ d.tr := fun q o hb nl z => by rw [z, h.htr] at hb; exact nl _ (Option.some.inj hb).symm
  have dict : ∀ q kvs, H q = some (.dK kvs) → q ≠ d.ss → (upd H2 d.ss (.dK [(.inr broughtS, .int b)])) q = some (.dK kvs) := fun q kvs hb nb => by
    rw [upd_ne nb]
    exact kp _ _ (nt _ _ hb fun _ z => nomatch z) hb
  refine ⟨stay _ _ (kp _ _ (nt _ _ h.hb fun _ z => nomatch z) h.hb) (fun _ z => nomatch z), dict _ _ h.hsh n6, dict _ _ h.hms n2, fun m hm' => stay _ _ (kp _ _ (nt _ _ (h.hmt m hm') fun _ z => nomatch z) (h.hmt m hm')) (fun _ z => nomatch z), h.nd, dict _ _ h.hts n3, upd_same, ?_, fun t ht => ?_, h.ne⟩
  · rw [List.map_append]
    exact stay _ _ tr (fun _ z => nomatch z)
  · rcases List.mem_append.mp ht with ht | ht
    · exact stay _ _ (kp _ _ (nt _ _ (h.htt t ht) fun _ z => nomatch z) (h.htt t ht)) (fun _ z => nomatch z)
    · obtain rfl := List.mem_singleton.mp ht
      exact stay _ _ hp (fun _ z => nomatch z)
theorem BookAt.setTab {H2 : Hp} {nm : Str} {was : V} {p : Addr} {tabs : List (Str × Addr)} (h : BookAt C H d M) (kp : ∀ b o, b ≠ d.tr → H b = some o → H2 b = some o) (tr : H2 d.tr = some (.lst ((M.trail.map fun t => V.ref t.a) ++ [.ref p]))) (hp : H2 p = some (.tup [.str tablesS, .str nm, was])) :
    BookAt C (upd H2 d.ts (.dK (tabs.map tabKv))) d { M with tabs := tabs, trail := M.trail ++ [⟨p, tablesS, nm, was⟩] } := by
  obtain ⟨n1, n2, n3, n4, n5, n6⟩ := h.ne
  have m2 : H2 d.ts = some (.dK (M.tabs.map tabKv)) := kp _ _ (fun z => by have := h.htr; rw [← z, h.hts] at this; cases this) h.hts
  have stay : ∀ q o, H2 q = some o → (∀ kvs, o ≠ .dK kvs) → (upd H2 d.ts (.dK (tabs.map tabKv))) q = some o := fun q o hb nk => by
    rw [upd_ne (fun z => by rw [z, m2] at hb; exact nk _ (Option.some.inj hb).symm)]
    exact hb
  have nt : ∀ q o, H q = some o → (∀ l, o ≠ .lst l) → q ≠ d.tr := fun q o hb nl z => by rw [z, h.htr] at hb; exact nl _ (Option.some.inj hb).symm
  have dict : ∀ q kvs, H q = some (.dK kvs) → q ≠ d.ts → (upd H2 d.ts (.dK (tabs.map tabKv))) q = some (.dK kvs) := fun q kvs hb nb => by
    rw [upd_ne nb]
    exact kp _ _ (nt _ _ hb fun _ z => nomatch z) hb
  refine ⟨stay _ _ (kp _ _ (nt _ _ h.hb fun _ z => nomatch z) h.hb) (fun _ z => nomatch z), dict _ _ h.hsh n5, dict _ _ h.hms n1, fun m hm' => stay _ _ (kp _ _ (nt _ _ (h.hmt m hm') fun _ z => nomatch z) (h.hmt m hm')) (fun _ z => nomatch z), h.nd, upd_same, dict _ _ h.hss n3.symm, ?_, fun t ht => ?_, h.ne⟩
  · rw [List.map_append]
    exact stay _ _ tr (fun _ z => nomatch z)
  · rcases List.mem_append.mp ht with ht | ht
    · exact stay _ _ (kp _ _ (nt _ _ (h.htt t ht) fun _ z => nomatch z) (h.htt t ht)) (fun _ z => nomatch z)
    · obtain rfl := List.mem_singleton.mp ht
      exact stay _ _ hp (fun _ z => nomatch z)
end

end Su
namespace Su
/-! ### the books' own methods -/
section
variable {P : Program} {w : World} {K : PySem.W.Frag} {mg : Str → Option Value} {base : Heap}
def spSetDown : Sp := fun vs H Q _ => ∃ (d : Addr) (kvs : List (Key × V)) (nm : Str) (v : V), vs = [.ref d, .str nm, v] ∧ H d = some (.dK kvs) ∧ kvs.length < 100000 ∧
  ((v = .non ∧ (valV kvs (.inr nm)).isSome = true ∧ ∀ H', Ex H H' → Q .non (upd H' d (.dK (dropK kvs (.inr nm))))) ∨ (v ≠ .non ∧ ∀ H', Ex H H' → Q .non (upd H' d (.dK (putK kvs (.inr nm) v)))))
theorem rv_isN {H : Hp} {v : V} : RV (fun x y H Q => y = .non ∧ Q (.bl (decide (x = .non))) H) v .non H (.bl (decide (v = .non))) := fun H1 _ _ q => ⟨rfl, q H1 (Ex.refl _)⟩
theorem rv_notN {H : Hp} {v : V} : RV (fun x y H Q => y = .non ∧ Q (.bl (!decide (x = .non))) H) v .non H (.bl (!decide (v = .non))) := fun H1 _ _ q => ⟨rfl, q H1 (Ex.refl _)⟩
theorem ok_set_down {f : Addr} {fd : FuncData} (F : Fun K "set_down" "set_down" s_set_down f fd) (T : Top K mg) : FnOk P w K mg base CX0 1 f fd ["shelf", "name", "thing"] spSetDown := by
  have nd := sc_set_down.nd
  refine F.ok sc_set_down (fun vs H Q E h => ?_) (fun cdv A outer s H vs Q E hr h => ?_)
  · obtain ⟨d, kvs, nm, v, rfl, _⟩ := h
    rfl
  · obtain ⟨d, kvs, nm, v, rfl, hd, hl, q⟩ := h
    refine ⟨_, (pss_one (ps_if (pt_cmpR op_isN (pv 2) pe_non (nomark _))
        (pss_one (ps_ddel (pv 0) (pv 1)))
        (pss_one (ps_dput (hu_of hr) (pv 0) (pv 1) (pv 2) rfl)))), ?_⟩
    refine s_if (b := decide (v = .non)) (et_test (ev_op (ev_var rfl) ev_c rv_isN)) (fun hb H1 e1 => ?_) (fun hb H1 e1 => ?_)
    · rcases q with ⟨_, hs, q⟩ | ⟨hn, _⟩
      · exact s_ddel (k := .inr nm) (ev_var rfl) (ev_var rfl) (e1 _ _ hd) hs fun H2 e2 => q H2 (e1.trans e2)
      · exact absurd (of_decide_eq_true hb) hn
    · rcases q with ⟨hn, _⟩ | ⟨_, q⟩
      · exact absurd hn (of_decide_eq_false hb)
      · exact s_dput (k := .inr nm) (ev_var rfl) (ev_var rfl) (ev_var rfl) (e1 _ _ hd) hl fun H2 e2 => q H2 (e1.trans e2)
theorem s_dropC {sp : Sp} {dvs vs : List V} {E : XK} {ta : TA} {σ : L2.St} {H : Hp} {D : Ends} (h : EvA ta σ H vs) (k : ∀ H1, Ex H H1 → sp (vs ++ dvs) H1 (fun _ H2 => D.nx σ H2) E) : tDrop (tCall sp dvs E ta) D σ H := h H (Ex.refl _) _ k
/-- put: the trail grows by what stood there, then the shelf is changed -/
def spPut (C : Addr) : Sp := fun vs H Q _ => ∃ (d : BookD) (M : BookM) (s : Addr) (shS nm : Str) (kvs : List (Key × V)) (v : V), vs = [.ref d.b, .str shS, .str nm, v] ∧ BookAt C H d M ∧ valV d.shelves (.inr shS) = some (.ref s) ∧ H s = some (.dK kvs) ∧ kvs.length < 50000 ∧ M.trail.length < 50000 ∧
  ∀ H1 p, Ex H H1 → H p = none → H1 p = some (.tup [.str shS, .str nm, (valV kvs (.inr nm)).getD .non]) →
    (v = .non → (valV kvs (.inr nm)).isSome = true) ∧ ∀ H2, (∀ b o, b ≠ d.tr → H1 b = some o → H2 b = some o) → H2 d.tr = some (.lst ((M.trail.map fun t => V.ref t.a) ++ [.ref p])) → Q .non (upd H2 s (.dK (if v = .non then dropK kvs (.inr nm) else putK kvs (.inr nm) v)))
theorem ok_Books_put {f : Addr} {fd : FuncData} (F : Fun K "put" "Books.put" s_Books_put f fd) (T : Top K mg) : FnOk P w K mg base CX0 2 f fd ["self", "shelf", "name", "thing"] (spPut T.f_Books) := by
  have nd := sc_Books_put.nd
  have G_set_down : FnOk P w K mg base CX0 1 T.f_set_down T.fd_set_down ["shelf", "name", "thing"] spSetDown := ok_set_down T.F_set_down T
  refine F.ok sc_Books_put (fun vs H Q E h => ?_) (fun cdv A outer s H vs Q E hr h => ?_)
  · obtain ⟨d, M, s, shS, nm, kvs, v, rfl, _⟩ := h
    rfl
  · obtain ⟨d, M, s, shS, nm, kvs, v, rfl, hB, hsh, hs, hl, ht, q⟩ := h
    refine ⟨_, (pss_cons (ps_expr (pe_bm PySem.F.plainAttrs_list PySem.F.slot_list_append PySem.F.type_list_append mt_append (pe_fldK (K := K) rfl (pv 0) rfl) (pa_cons (pe_tup (pa_cons (pv 1) (pa_cons (pv 2) (pa_cons (pe_dget1 (hu_of hr) (pe_dget (hu_of hr) (pe_fldK (K := K) rfl (pv 0) rfl) (pv 1) (fun _ _ => rfl)) (pv 2) ⟨rfl, rfl, rfl, rfl⟩) pa_nil)))) pa_nil)))
      (pss_one (ps_expr (pe_call G_set_down (hr.mono (by omega)) (by rfl) T.m_set_down T.F_set_down.kp T.b_set_down .nil pass0 (pa_cons (pe_dget (hu_of hr) (pe_fldK (K := K) rfl (pv 0) rfl) (pv 1) (fun _ _ => rfl)) (pa_cons (pv 2) (pa_cons (pv 3) pa_nil))))))), ?_⟩
    refine q_appU (xs := M.trail.map fun t => V.ref t.a) hB.htr (ev_fld (ev_var rfl) hB.hb T.cl_Books T.na_Books_trail rfl) (eu_tup (ea_cons (ev_var rfl) (ea_cons (ev_var rfl) (ea_cons (ev_dgetO (k := .inr nm) (ev_dget (k := .inr shS) (ev_fld (ev_var rfl) hB.hb T.cl_Books T.na_Books_shelves rfl) (ev_var rfl) hB.hsh hsh) (ev_var rfl) hs) ea_nil))) (by show 3 ≤ 100000; decide)) (by rw [List.length_map]; omega) fun p H1 hp e1 h1 => ?_
    have hs1 := e1 _ _ hs
    have nst : d.tr ≠ s := fun z => by have := hB.htr; rw [z, hs] at this; cases this
    have npt : p ≠ d.tr := fun z => by rw [z, hB.htr] at hp; cases hp
    obtain ⟨q1, q2⟩ := q H1 p e1 hp h1
    have hb1 : (upd H1 d.tr (.lst ((M.trail.map fun t => V.ref t.a) ++ [.ref p]))) d.b = some (.ins T.f_Books d.dx [("shelves", .ref d.sh), ("trail", .ref d.tr)]) := by
      rw [upd_ne (fun z => by have := hB.hb; rw [z, hB.htr] at this; cases this)]
      exact e1 _ _ hB.hb
    have hsh1 : (upd H1 d.tr (.lst ((M.trail.map fun t => V.ref t.a) ++ [.ref p]))) d.sh = some (.dK d.shelves) := by
      rw [upd_ne (fun z => by have := hB.hsh; rw [z, hB.htr] at this; cases this)]
      exact e1 _ _ hB.hsh
    have hs2 : (upd H1 d.tr (.lst ((M.trail.map fun t => V.ref t.a) ++ [.ref p]))) s = some (.dK kvs) := by
      rw [upd_ne nst.symm]
      exact hs1
    have other : ∀ H2, Ex (upd H1 d.tr (.lst ((M.trail.map fun t => V.ref t.a) ++ [.ref p]))) H2 → (∀ b o, b ≠ d.tr → H1 b = some o → H2 b = some o) ∧ H2 d.tr = some (.lst ((M.trail.map fun t => V.ref t.a) ++ [.ref p])) := fun H2 e2 => ⟨fun b o nb hb => e2 _ _ (by rw [upd_ne nb]; exact hb), e2 _ _ upd_same⟩
    refine s_dropC (ea_cons (ev_dget (k := .inr shS) (ev_fld (ev_var rfl) hb1 T.cl_Books T.na_Books_shelves rfl) (ev_var rfl) hsh1 hsh) (ea_cons (ev_var rfl) (ea_cons (ev_var rfl) ea_nil))) fun H2 e2 => ⟨s, kvs, nm, v, rfl, e2 _ _ hs2, by omega, ?_⟩
    by_cases hv : v = .non
    · refine .inl ⟨hv, q1 hv, fun H3 e3 => ?_⟩
      obtain ⟨o1, o2⟩ := other H3 (e2.trans e3)
      have := q2 H3 o1 o2
      rw [if_pos hv] at this
      exact this
    · refine .inr ⟨hv, fun H3 e3 => ?_⟩
      obtain ⟨o1, o2⟩ := other H3 (e2.trans e3)
      have := q2 H3 o1 o2
      rw [if_neg hv] at this
      exact this
theorem put_fr {d : BookD} {H H1 H2 : Hp} {s : Addr} {o : HO} (e1 : Ex H H1) (kp : ∀ b o, b ≠ d.tr → H1 b = some o → H2 b = some o) (hs : s ∈ d.mut) : FrT d.mut H (upd H2 s o) :=
  FrT.upd (FrT.by_ fun b u hb hn => kp b u (fun z => hn (by rw [z]; simp [BookD.mut])) (e1 _ _ hb)) hs
/-- put, of the members' shelf -/
theorem put_mem {C : Addr} {H : Hp} {d : BookD} {M : BookM} {nm : Str} {v : V} {Q : VK} {E : XK} (mems : List Mem) (hB : BookAt C H d M) (hl : M.mems.length < 50000) (ht : M.trail.length < 50000) (hc : v = .non → (M.mem? nm).isSome = true)
    (hk : (if v = .non then dropK (M.mems.map Mem.kv) (.inr nm) else putK (M.mems.map Mem.kv) (.inr nm) v) = mems.map Mem.kv) (hm : ∀ m ∈ mems, H m.a = some (.tup [.int m.num, .int m.coins])) (nd : (mems.map Mem.nm).Nodup)
    (q : ∀ H' p, FrT d.mut H H' → H p = none → BookAt C H' d { M with mems := mems, trail := M.trail ++ [⟨p, membersS, nm, ((M.mem? nm).map fun m => V.ref m.a).getD .non⟩] } → Q .non H') : spPut C [.ref d.b, .str membersS, .str nm, v] H Q E := by
  refine ⟨d, M, d.ms, membersS, nm, M.mems.map Mem.kv, v, rfl, hB, rfl, hB.hms, by rw [List.length_map]; exact hl, ht, fun H1 p e1 hp h1 => ⟨fun hv => ?_, fun H2 kp tr => ?_⟩⟩
  · rw [valV_mems, Option.isSome_map]
    exact hc hv
  · rw [valV_mems] at h1
    have kp' : ∀ b o, b ≠ d.tr → H b = some o → H2 b = some o := fun b o nb hb => kp b o nb (e1 _ _ hb)
    have nt : ∀ {b o}, H b = some o → (∀ l, o ≠ .lst l) → b ≠ d.tr := fun {b o} hb nl z => by rw [z, hB.htr] at hb; exact nl _ (Option.some.inj hb).symm
    rw [hk]
    refine q _ p (put_fr e1 kp (by simp [BookD.mut])) hp (hB.setMem kp' tr (kp _ _ (fun z => by rw [z, hB.htr] at hp; cases hp) h1) (fun m hm' => kp' _ _ (nt (hm m hm') fun _ z => nomatch z) (hm m hm')) nd)
theorem put_sum {C : Addr} {H : Hp} {d : BookD} {M : BookM} {b : Int} {Q : VK} {E : XK} (hB : BookAt C H d M) (ht : M.trail.length < 50000)
    (q : ∀ H' p, FrT d.mut H H' → H p = none → BookAt C H' d { M with brought := b, trail := M.trail ++ [⟨p, sumsS, broughtS, .int M.brought⟩] } → Q .non H') : spPut C [.ref d.b, .str sumsS, .str broughtS, .int b] H Q E := by
  refine ⟨d, M, d.ss, sumsS, broughtS, [(.inr broughtS, .int M.brought)], .int b, rfl, hB, rfl, hB.hss, by show 1 < 50000; decide, ht, fun H1 p e1 hp h1 => ⟨(fun hv => nomatch hv), fun H2 kp tr => ?_⟩⟩
  rw [if_neg (fun z => nomatch z), show putK [((Sum.inr broughtS : Key), V.int M.brought)] (.inr broughtS) (.int b) = [(.inr broughtS, .int b)] from rfl]
  exact q _ p (put_fr e1 kp (by simp [BookD.mut])) hp (hB.setSum (fun b o nb hb => kp b o nb (e1 _ _ hb)) tr (kp _ _ (fun z => by rw [z, hB.htr] at hp; cases hp) h1))
theorem s_dropM3 {C a dx : Addr} {fs : List (Str × V)} {m : Str} {sp : Sp} {E : XK} {te t1 t2 t3 : TE} {σ : L2.St} {H : Hp} {D : Ends} {v1 v2 v3 : V} (h : Ev te σ H (.ref a)) (ha : H a = some (.ins C dx fs)) (hm : fs.lookup m = none) (h1 : Ev t1 σ H v1) (h2 : Ev t2 σ H v2) (h3 : Ev t3 σ H v3)
    (k : ∀ H1, Ex H H1 → sp [.ref a, v1, v2, v3] H1 (fun _ H2 => D.nx σ H2) E) : tDrop (tMeth C m sp [] E te (tCons t1 (tCons t2 (tCons t3 tNil)))) D σ H :=
  h H (Ex.refl _) _ fun H1 e1 => ⟨a, dx, fs, rfl, e1 _ _ ha, hm, (ea_cons h1 (ea_cons h2 (ea_cons h3 ea_nil))) H1 e1 _ fun H2 e2 => k H2 (e1.trans e2)⟩
theorem s_dropM3U {C a dx : Addr} {fs : List (Str × V)} {m : Str} {sp : Sp} {E : XK} {te t1 t2 t3 : TE} {σ : L2.St} {H : Hp} {D : Ends} {v1 v2 : V} {xs : List V} (h : Ev te σ H (.ref a)) (ha : H a = some (.ins C dx fs)) (hm : fs.lookup m = none) (h1 : Ev t1 σ H v1) (h2 : Ev t2 σ H v2) (h3 : EvU t3 σ H xs)
    (k : ∀ p H1, H p = none → Ex H H1 → H1 p = some (.tup xs) → sp [.ref a, v1, v2, .ref p] H1 (fun _ H2 => D.nx σ H2) E) : tDrop (tMeth C m sp [] E te (tCons t1 (tCons t2 (tCons t3 tNil)))) D σ H :=
  h H (Ex.refl _) _ fun H1 e1 => ⟨a, dx, fs, rfl, e1 _ _ ha, hm, h1 H1 e1 _ fun H2 e2 => h2 H2 (e1.trans e2) _ fun H3 e3 => h3 H3 ((e1.trans e2).trans e3) _ fun p H4 hp e4 h4 => k p H4 (fresh_back ((e1.trans e2).trans e3) hp) (((e1.trans e2).trans e3).trans e4) h4⟩
def spAddMember (C : Addr) : Sp := fun vs H Q _ => ∃ (d : BookD) (M : BookM) (nm : Str), vs = [.ref d.b, .str nm] ∧ BookAt C H d M ∧ M.mem? nm = none ∧ M.mems.length < 50000 ∧ M.trail.length < 50000 ∧ ∀ H' a p, FrT d.mut H H' → BookAt C H' d (M.addMember nm a p) → Q .non H'
theorem ok_Books_add_member {f : Addr} {fd : FuncData} (F : Fun K "add_member" "Books.add_member" s_Books_add_member f fd) (T : Top K mg) : FnOk P w K mg base CX0 3 f fd ["self", "name"] (spAddMember T.f_Books) := by
  have nd := sc_Books_add_member.nd
  have G_Books_put : FnOk P w K mg base CX0 2 T.f_Books_put T.fd_Books_put ["self", "shelf", "name", "thing"] (spPut T.f_Books) := ok_Books_put T.F_Books_put T
  refine F.ok sc_Books_add_member (fun vs H Q E h => ?_) (fun cdv A outer s H vs Q E hr h => ?_)
  · obtain ⟨d, M, nm, rfl, _⟩ := h
    rfl
  · obtain ⟨d, M, nm, rfl, hB, hn, hl, ht, q⟩ := h
    refine ⟨_, (pss_one (ps_expr (pe_meth (pv 0) T.cl_Books T.mt_Books_put G_Books_put (hr.mono (by omega)) T.b_Books_put .nil pass0 (pa_cons (pe_glob (v := .str "members") (by rfl) T.m_MEMBERS ⟨_, rfl⟩) (pa_cons (pv 1) (pa_cons (pe_tup (pa_cons (pe_callB call_len_seq (by rfl) T.m_len PySem.boot_len (pa_cons (pe_fldK (K := K) rfl (pv 0) rfl) pa_nil)) (pa_cons pe_int pa_nil))) pa_nil)))))), ?_⟩
    refine s_dropM3U (ev_var rfl) hB.hb rfl ev_c (ev_var rfl) (eu_tup (ea_cons (ev_len (ev_fld (ev_var rfl) hB.hb T.cl_Books T.na_Books_trail rfl) (sq_of hB.htr)) (ea_cons ev_c ea_nil)) (by show 2 ≤ 100000; decide)) fun a H1 ha e1 h1 => ?_
    have hB1 := hB.ex e1
    rw [List.length_map] at h1
    refine put_mem (M.mems ++ [⟨nm, a, M.trail.length, 0⟩]) hB1 hl ht (fun z => nomatch z) ?_ (fun m hm => ?_) ?_ fun H' p fr hp hB' => ?_
    · rw [if_neg (fun z => nomatch z), putK_new (by rw [valV_mems, hn]; rfl), List.map_append]
      rfl
    · rcases List.mem_append.mp hm with hm | hm
      · exact hB1.hmt m hm
      · obtain rfl := List.mem_singleton.mp hm
        exact h1
    · rw [List.map_append, List.nodup_append]
      refine ⟨hB.nd, by simp, fun x hx y hy z => ?_⟩
      obtain rfl := List.mem_singleton.mp hy
      exact BookM.mem?_none hn (z ▸ hx)
    · rw [hn] at hB'
      exact q H' a p ((FrT.ex e1).trans fr) hB'
end

end Su
namespace Su
/-! ### the books' other methods, and what the deeds on members do -/
section
variable {P : Program} {w : World} {K : PySem.W.Frag} {mg : Str → Option Value} {base : Heap}
theorem BookAt.mems_at {C : Addr} {H : Hp} {d : BookD} {M : BookM} (hB : BookAt C H d M) {σ : L2.St} {te tk : TE} (T : Top K mg) (hC : C = T.f_Books) (h : Ev te σ H (.ref d.b)) (hk : Ev tk σ H (.str membersS)) : Ev (tDGet (tFld K te "shelves") tk) σ H (.ref d.ms) := by
  subst hC
  exact ev_dget (k := .inr membersS) (ev_fld h hB.hb T.cl_Books T.na_Books_shelves rfl) hk hB.hsh rfl
theorem BookAt.sums_at {C : Addr} {H : Hp} {d : BookD} {M : BookM} (hB : BookAt C H d M) {σ : L2.St} {te tk : TE} (T : Top K mg) (hC : C = T.f_Books) (h : Ev te σ H (.ref d.b)) (hk : Ev tk σ H (.str sumsS)) : Ev (tDGet (tFld K te "shelves") tk) σ H (.ref d.ss) := by
  subst hC
  exact ev_dget (k := .inr sumsS) (ev_fld h hB.hb T.cl_Books T.na_Books_shelves rfl) hk hB.hsh rfl
theorem BookAt.tabs_at {C : Addr} {H : Hp} {d : BookD} {M : BookM} (hB : BookAt C H d M) {σ : L2.St} {te tk : TE} (T : Top K mg) (hC : C = T.f_Books) (h : Ev te σ H (.ref d.b)) (hk : Ev tk σ H (.str tablesS)) : Ev (tDGet (tFld K te "shelves") tk) σ H (.ref d.ts) := by
  subst hC
  exact ev_dget (k := .inr tablesS) (ev_fld h hB.hb T.cl_Books T.na_Books_shelves rfl) hk hB.hsh rfl
def spHasMem (C : Addr) : Sp := fun vs H Q _ => ∃ (d : BookD) (M : BookM) (nm : Str), vs = [.ref d.b, .str nm] ∧ BookAt C H d M ∧ ∀ H', Ex H H' → Q (.bl (M.mem? nm).isSome) H'
theorem ok_Books_has_member {f : Addr} {fd : FuncData} (F : Fun K "has_member" "Books.has_member" s_Books_has_member f fd) (T : Top K mg) : FnOk P w K mg base CX0 1 f fd ["self", "name"] (spHasMem T.f_Books) := by
  have nd := sc_Books_has_member.nd
  refine F.ok sc_Books_has_member (fun vs H Q E h => ?_) (fun cdv A outer s H vs Q E hr h => ?_)
  · obtain ⟨d, M, nm, rfl, _⟩ := h
    rfl
  · obtain ⟨d, M, nm, rfl, hB, q⟩ := h
    refine ⟨_, (pss_one (ps_ret (pe_cmp (pc_din (hu_of hr) (pv 1) (pe_dget (hu_of hr) (pe_fldK (K := K) rfl (pv 0) rfl) (pe_glob (v := .str "members") (by rfl) T.m_MEMBERS ⟨_, rfl⟩) (fun _ _ => rfl)))))), ?_⟩
    exact s_ret (ev_is (ev_din (k := .inr nm) (ev_var rfl) (hB.mems_at T rfl (ev_var rfl) ev_c) hB.hms) (by rw [valV_mems, Option.isSome_map])) q
def spPurseOf (C fU : Addr) : Sp := fun vs H Q E => ∃ (d : BookD) (M : BookM) (nm : Str), vs = [.ref d.b, .str nm] ∧ BookAt C H d M ∧ (∀ m, M.mem? nm = some m → ∀ H', Ex H H' → Q (.int m.coins) H') ∧ (M.mem? nm = none → ∀ H', Ex H H' → E (.ref fU) none H')
theorem ok_Books_purse_of {f : Addr} {fd : FuncData} (F : Fun K "purse_of" "Books.purse_of" s_Books_purse_of f fd) (T : Top K mg) : FnOk P w K mg base (L2.CX P w) 2 f fd ["self", "name"] (spPurseOf T.f_Books T.f_Unknown) := by
  have nd := sc_Books_purse_of.nd
  have G_Books_has_member : FnOk P w K mg base CX0 1 T.f_Books_has_member T.fd_Books_has_member ["self", "name"] (spHasMem T.f_Books) := ok_Books_has_member T.F_Books_has_member T
  refine F.okX sc_Books_purse_of (fun vs H Q E h => ?_) (fun cdv A outer s H vs Q E hr h => ?_)
  · obtain ⟨d, M, nm, rfl, _⟩ := h
    rfl
  · obtain ⟨d, M, nm, rfl, hB, q, qx⟩ := h
    refine ⟨_, (pss_cons (ps_if (pt_not (pt_val (pe_meth (pv 0) T.cl_Books T.mt_Books_has_member G_Books_has_member (hr.mono (by omega)) T.b_Books_has_member .nil pass0 (pa_cons (pv 1) pa_nil))))
        (pss_one (ps_raise rfl (takes_of rfl rfl rfl rfl) (pmk_own0 PySem.F.excBase_ValueError T.x_Unknown T.m_Unknown T.kp_Unknown (raises_own T.sb_Unknown T.ty_Unknown) (by rfl))))
        pss_nil)
      (pss_one (ps_ret (pe_ix ix_tup (pe_dget (hu_of hr) (pe_dget (hu_of hr) (pe_fldK (K := K) rfl (pv 0) rfl) (pe_glob (v := .str "members") (by rfl) T.m_MEMBERS ⟨_, rfl⟩) (fun _ _ => rfl)) (pv 1) (fun _ _ => rfl)) pe_int (fun _ _ => rfl))))), ?_⟩
    refine q_when (b := !(M.mem? nm).isSome) (et_not (et_B (ev_meth (ev_var rfl) hB.hb rfl (ea_cons (ev_var rfl) ea_nil) fun H1 e1 Q1 q1 _ => ⟨d, M, nm, rfl, hB.ex e1, q1⟩))) (fun hb H1 e1 => ?_) (fun hb H1 e1 => ?_)
    · exact qx (by cases h : M.mem? nm with | none => rfl | some m => rw [h] at hb; cases hb) H1 e1
    · cases hm : M.mem? nm with
      | none => rw [hm] at hb; cases hb
      | some m =>
        have hB1 := hB.ex e1
        refine s_ret (ev_op (ev_dget (k := .inr nm) (v := .ref m.a) (hB1.mems_at T rfl (ev_var rfl) ev_c) (ev_var rfl) hB1.hms (by rw [valV_mems, hm]; rfl)) ev_c (rv_ixT (st_of (hB1.hmt m (BookM.mem?_mem hm).1)) (atI_nat (j := 1) rfl))) fun H2 e2 => q m hm H2 (e1.trans e2)
def spBrought (C : Addr) : Sp := fun vs H Q _ => ∃ (d : BookD) (M : BookM), vs = [.ref d.b] ∧ BookAt C H d M ∧ ∀ H', Ex H H' → Q (.int M.brought) H'
theorem ok_Books_brought {f : Addr} {fd : FuncData} (F : Fun K "brought" "Books.brought" s_Books_brought f fd) (T : Top K mg) : FnOk P w K mg base CX0 1 f fd ["self"] (spBrought T.f_Books) := by
  have nd := sc_Books_brought.nd
  refine F.ok sc_Books_brought (fun vs H Q E h => ?_) (fun cdv A outer s H vs Q E hr h => ?_)
  · obtain ⟨d, M, rfl, _⟩ := h
    rfl
  · obtain ⟨d, M, rfl, hB, q⟩ := h
    refine ⟨_, (pss_one (ps_ret (pe_dget (hu_of hr) (pe_dget (hu_of hr) (pe_fldK (K := K) rfl (pv 0) rfl) (pe_glob (v := .str "sums") (by rfl) T.m_SUMS ⟨_, rfl⟩) (fun _ _ => rfl)) (pe_glob (v := .str "brought") (by rfl) T.m_BROUGHT ⟨_, rfl⟩) (fun _ _ => rfl)))), ?_⟩
    exact s_ret (ev_dget (k := .inr broughtS) (hB.sums_at T rfl (ev_var rfl) ev_c) ev_c hB.hss rfl) q
def spDropMember (C : Addr) : Sp := fun vs H Q _ => ∃ (d : BookD) (M : BookM) (m : Mem), vs = [.ref d.b, .str m.nm] ∧ BookAt C H d M ∧ M.mem? m.nm = some m ∧ M.mems.length < 50000 ∧ M.trail.length < 50000 ∧ ∀ H' p, FrT d.mut H H' → BookAt C H' d (M.dropMember m p) → Q .non H'
theorem ok_Books_drop_member {f : Addr} {fd : FuncData} (F : Fun K "drop_member" "Books.drop_member" s_Books_drop_member f fd) (T : Top K mg) : FnOk P w K mg base CX0 3 f fd ["self", "name"] (spDropMember T.f_Books) := by
  have nd := sc_Books_drop_member.nd
  have G_Books_put : FnOk P w K mg base CX0 2 T.f_Books_put T.fd_Books_put ["self", "shelf", "name", "thing"] (spPut T.f_Books) := ok_Books_put T.F_Books_put T
  refine F.ok sc_Books_drop_member (fun vs H Q E h => ?_) (fun cdv A outer s H vs Q E hr h => ?_)
  · obtain ⟨d, M, m, rfl, _⟩ := h
    rfl
  · obtain ⟨d, M, m, rfl, hB, hm, hl, ht, q⟩ := h
    refine ⟨_, (pss_one (ps_expr (pe_meth (pv 0) T.cl_Books T.mt_Books_put G_Books_put (hr.mono (by omega)) T.b_Books_put .nil pass0 (pa_cons (pe_glob (v := .str "members") (by rfl) T.m_MEMBERS ⟨_, rfl⟩) (pa_cons (pv 1) (pa_cons pe_non pa_nil)))))), ?_⟩
    refine s_dropM3 (ev_var rfl) hB.hb rfl ev_c (ev_var rfl) ev_c fun H1 e1 => ?_
    have hB1 := hB.ex e1
    refine put_mem (M.mems.filter fun x => decide (x.nm ≠ m.nm)) hB1 hl ht (fun _ => by rw [hm]; rfl) ?_ (fun x hx => hB1.hmt x (List.mem_filter.mp hx).1) ?_ fun H' p fr hp hB' => ?_
    · rw [if_pos rfl]
      exact dropK_kv Mem.nm (fun m => .ref m.a) M.mems m.nm
    · exact List.Nodup.sublist (List.Sublist.map _ List.filter_sublist) hB.nd
    · rw [hm] at hB'
      exact q H' p ((FrT.ex e1).trans fr) hB'
def spAddCoins (C : Addr) : Sp := fun vs H Q _ => ∃ (d : BookD) (M : BookM) (m : Mem) (c : Int), vs = [.ref d.b, .str m.nm, .int c] ∧ BookAt C H d M ∧ M.mem? m.nm = some m ∧ M.mems.length < 50000 ∧ M.trail.length < 50000 ∧ ∀ H' a p, FrT d.mut H H' → BookAt C H' d (M.addCoins m c a p) → Q .non H'
theorem ok_Books_add_coins {f : Addr} {fd : FuncData} (F : Fun K "add_coins" "Books.add_coins" s_Books_add_coins f fd) (T : Top K mg) : FnOk P w K mg base CX0 3 f fd ["self", "name", "coins"] (spAddCoins T.f_Books) := by
  have nd := sc_Books_add_coins.nd
  have G_Books_put : FnOk P w K mg base CX0 2 T.f_Books_put T.fd_Books_put ["self", "shelf", "name", "thing"] (spPut T.f_Books) := ok_Books_put T.F_Books_put T
  refine F.ok sc_Books_add_coins (fun vs H Q E h => ?_) (fun cdv A outer s H vs Q E hr h => ?_)
  · obtain ⟨d, M, m, c, rfl, _⟩ := h
    rfl
  · obtain ⟨d, M, m, c, rfl, hB, hm, hl, ht, q⟩ := h
    refine ⟨_, (pss_cons (ps_asg (pe_dget (hu_of hr) (pe_dget (hu_of hr) (pe_fldK (K := K) rfl (pv 0) rfl) (pe_glob (v := .str "members") (by rfl) T.m_MEMBERS ⟨_, rfl⟩) (fun _ _ => rfl)) (pv 1) (fun _ _ => rfl)) (pg_tup rfl (pgs_cons (pg_name (i := 3) nd rfl (.inl rfl)) (pgs_cons (pg_name (i := 4) nd rfl (.inl rfl)) pgs_nil))))
      (pss_one (ps_expr (pe_meth (pv 0) T.cl_Books T.mt_Books_put G_Books_put (hr.mono (by omega)) T.b_Books_put .nil pass0 (pa_cons (pe_glob (v := .str "members") (by rfl) T.m_MEMBERS ⟨_, rfl⟩) (pa_cons (pv 1) (pa_cons (pe_tup (pa_cons (pv 3) (pa_cons (pe_op op_add (pv 4) (pv 2)) pa_nil))) pa_nil))))))), ?_⟩
    have hmm := (BookM.mem?_mem hm).1
    refine q_asgG (ev_dget (k := .inr m.nm) (v := .ref m.a) (hB.mems_at T rfl (ev_var rfl) ev_c) (ev_var rfl) hB.hms (by rw [valV_mems, hm]; rfl)) (fun H1 e1 => tg_two (st_of (e1 _ _ (hB.hmt m hmm))) tg_name tg_name) fun H1 e1 => ?_
    have hB1 := hB.ex e1
    refine s_dropM3U (ev_var rfl) hB1.hb rfl ev_c (ev_var rfl) (eu_tup (vs := [.int m.num, .int (m.coins + c)]) (ea_cons (ev_var rfl) (ea_cons (ev_op (ev_var rfl) (ev_var rfl) rv_I0) ea_nil)) (by show 2 ≤ 100000; decide)) fun a H2 ha e2 h2 => ?_
    have hB2 := hB1.ex e2
    refine put_mem (M.mems.map fun x => if x.nm = m.nm then ⟨x.nm, a, m.num, m.coins + c⟩ else x) hB2 hl ht (fun z => nomatch z) ?_ (fun x hx => ?_) ?_ fun H' p fr hp hB' => ?_
    · rw [if_neg (fun z => nomatch z)]
      show putK (M.mems.map fun x => ((Sum.inr x.nm : Key), V.ref x.a)) _ _ = _
      rw [putK_old Mem.nm (fun m => .ref m.a) M.mems (by have h := hm; unfold BookM.mem? at h; rw [h]; rfl), List.map_map]
      apply List.map_congr_left
      intro x _
      show _ = Mem.kv (if x.nm = m.nm then _ else x)
      by_cases e : x.nm = m.nm
      · rw [if_pos e, if_pos e]
        rfl
      · rw [if_neg e, if_neg e]
        rfl
    · obtain ⟨y, hy, rfl⟩ := List.mem_map.mp hx
      by_cases e : y.nm = m.nm
      · rw [if_pos e]
        exact h2
      · rw [if_neg e]
        exact hB2.hmt y hy
    · rw [List.map_map]
      have : (Mem.nm ∘ fun x : Mem => if x.nm = m.nm then (⟨x.nm, a, m.num, m.coins + c⟩ : Mem) else x) = Mem.nm := funext fun x => by
        show Mem.nm (if x.nm = m.nm then _ else x) = x.nm
        by_cases e : x.nm = m.nm
        · rw [if_pos e]
        · rw [if_neg e]
      rw [this]
      exact hB.nd
    · rw [hm] at hB'
      exact q H' a p ((FrT.ex (e1.trans e2)).trans fr) hB'
def spAddBrought (C : Addr) : Sp := fun vs H Q _ => ∃ (d : BookD) (M : BookM) (c : Int), vs = [.ref d.b, .int c] ∧ BookAt C H d M ∧ M.trail.length < 50000 ∧ ∀ H' p, FrT d.mut H H' → BookAt C H' d (M.addBrought c p) → Q .non H'
theorem ok_Books_add_brought {f : Addr} {fd : FuncData} (F : Fun K "add_brought" "Books.add_brought" s_Books_add_brought f fd) (T : Top K mg) : FnOk P w K mg base CX0 3 f fd ["self", "coins"] (spAddBrought T.f_Books) := by
  have nd := sc_Books_add_brought.nd
  have G_Books_put : FnOk P w K mg base CX0 2 T.f_Books_put T.fd_Books_put ["self", "shelf", "name", "thing"] (spPut T.f_Books) := ok_Books_put T.F_Books_put T
  have G_Books_brought : FnOk P w K mg base CX0 1 T.f_Books_brought T.fd_Books_brought ["self"] (spBrought T.f_Books) := ok_Books_brought T.F_Books_brought T
  refine F.ok sc_Books_add_brought (fun vs H Q E h => ?_) (fun cdv A outer s H vs Q E hr h => ?_)
  · obtain ⟨d, M, c, rfl, _⟩ := h
    rfl
  · obtain ⟨d, M, c, rfl, hB, ht, q⟩ := h
    refine ⟨_, (pss_one (ps_expr (pe_meth (pv 0) T.cl_Books T.mt_Books_put G_Books_put (hr.mono (by omega)) T.b_Books_put .nil pass0 (pa_cons (pe_glob (v := .str "sums") (by rfl) T.m_SUMS ⟨_, rfl⟩) (pa_cons (pe_glob (v := .str "brought") (by rfl) T.m_BROUGHT ⟨_, rfl⟩) (pa_cons (pe_op op_add (pe_meth0 (pv 0) T.cl_Books T.mt_Books_brought G_Books_brought (hr.mono (by omega)) T.b_Books_brought .nil pass0 ) (pv 1)) pa_nil)))))), ?_⟩
    refine s_dropM3 (ev_var rfl) hB.hb rfl ev_c ev_c (ev_op (ev_meth (ev_var rfl) hB.hb rfl ea_nil fun H1 e1 Q1 q1 _ => ⟨d, M, rfl, hB.ex e1, q1⟩) (ev_var rfl) rv_I0) fun H1 e1 => ?_
    exact put_sum (hB.ex e1) ht fun H' p fr hp hB' => q H' p ((FrT.ex e1).trans fr) hB'
def spShort (C fU fS : Addr) : Sp := fun vs H Q E => ∃ (d : BookD) (M : BookM) (m : Mem) (c : Int), vs = [.ref d.b, .str m.nm, .int c] ∧ BookAt C H d M ∧ M.mem? m.nm = some m ∧ (c ≤ m.coins → ∀ H', Ex H H' → Q .non H') ∧ (m.coins < c → ∀ H', Ex H H' → E (.ref fS) none H')
theorem ok_Books_refuse_short {f : Addr} {fd : FuncData} (F : Fun K "refuse_short" "Books.refuse_short" s_Books_refuse_short f fd) (T : Top K mg) : FnOk P w K mg base (L2.CX P w) 3 f fd ["self", "name", "coins"] (spShort T.f_Books T.f_Unknown T.f_Short) := by
  have nd := sc_Books_refuse_short.nd
  have G_Books_purse_of : FnOk P w K mg base (L2.CX P w) 2 T.f_Books_purse_of T.fd_Books_purse_of ["self", "name"] (spPurseOf T.f_Books T.f_Unknown) := ok_Books_purse_of T.F_Books_purse_of T
  refine F.okX sc_Books_refuse_short (fun vs H Q E h => ?_) (fun cdv A outer s H vs Q E hr h => ?_)
  · obtain ⟨d, M, m, c, rfl, _⟩ := h
    rfl
  · obtain ⟨d, M, m, c, rfl, hB, hm, q, qx⟩ := h
    refine ⟨_, (pss_one (ps_if (pt_cmpR op_lt (pe_meth (pv 0) T.cl_Books T.mt_Books_purse_of G_Books_purse_of (hr.mono (by omega)) T.b_Books_purse_of .nil (passes_call (takes_of rfl rfl rfl rfl) (fun _ _ _ _ h => h)) (pa_cons (pv 1) pa_nil)) (pv 2) (nomark _))
        (pss_one (ps_raise rfl (takes_of rfl rfl rfl rfl) (pmk_own0 PySem.F.excBase_ValueError T.x_Short T.m_Short T.kp_Short (raises_own T.sb_Short T.ty_Short) (by rfl))))
        pss_nil)), ?_⟩
    refine s_when (b := decide (m.coins < c)) (et_test (ev_op (ev_meth (ev_var rfl) hB.hb rfl (ea_cons (ev_var rfl) ea_nil) fun H1 e1 Q1 q1 _ => ⟨d, M, m.nm, rfl, hB.ex e1, fun m' hm' => by
      obtain rfl : m' = m := Option.some.inj (hm'.symm.trans hm)
      exact q1, fun z => by rw [hm] at z; cases z⟩) (ev_var rfl) rv_I0)) (fun hb H1 e1 => qx (of_decide_eq_true hb) H1 e1) (fun hb H1 e1 => q (by have := of_decide_eq_false hb; omega) H1 e1)
def spBeyond (fB : Addr) : Sp := fun vs H Q E => ∃ c l m : Int, vs = [.int c, .int l, .int m] ∧ (l ≤ c ∧ c ≤ m → ∀ H', Ex H H' → Q .non H') ∧ (¬ (l ≤ c ∧ c ≤ m) → ∀ H', Ex H H' → E (.ref fB) none H')
theorem ok_refuse_beyond {f : Addr} {fd : FuncData} (F : Fun K "refuse_beyond" "refuse_beyond" s_refuse_beyond f fd) (T : Top K mg) : FnOk P w K mg base (L2.CX P w) 1 f fd ["coins", "least", "most"] (spBeyond T.f_BadNumber) := by
  have nd := sc_refuse_beyond.nd
  refine F.okX sc_refuse_beyond (fun vs H Q E h => ?_) (fun cdv A outer s H vs Q E hr h => ?_)
  · obtain ⟨c, l, m, rfl, _⟩ := h
    rfl
  · obtain ⟨c, l, m, rfl, q, qx⟩ := h
    refine ⟨_, (pss_one (ps_if (pt_not (pt_chain op_le op_le (pv 1) (pv 0) (pv 2)))
        (pss_one (ps_raise rfl (takes_of rfl rfl rfl rfl) (pmk_own0 PySem.F.excBase_ValueError T.x_BadNumber T.m_BadNumber T.kp_BadNumber (raises_own T.sb_BadNumber T.ty_BadNumber) (by rfl))))
        pss_nil)), ?_⟩
    refine s_when (b := !(decide (l ≤ c) && decide (c ≤ m))) (et_not (chain_le (ev_var rfl) (ev_var rfl) (ev_var rfl))) (fun hb H1 e1 => qx (fun z => ?_) H1 e1) (fun hb H1 e1 => q ?_ H1 e1)
    · rw [decide_eq_true z.1, decide_eq_true z.2] at hb
      cases hb
    · by_cases h1 : l ≤ c
      · by_cases h2 : c ≤ m
        · exact ⟨h1, h2⟩
        · rw [decide_eq_false h2, Bool.and_false] at hb; cases hb
      · rw [decide_eq_false h1] at hb; cases hb
end

end Su
namespace Su
/-! ### the deeds on members: what each refuses, what it does -/
open TL
def refEnter (M : BookM) (nm : Str) : Option Str := if isNameB nm = false then some "BadName" else if (M.mem? nm).isSome = true then some "Known" else none
def refPart (M : BookM) (nm : Str) : Option Str := match M.mem? nm with
  | none => some "Unknown"
  | some m => if 0 < m.coins then some "Holding" else none
def inCoins (c : Int) : Prop := 1 ≤ c ∧ c ≤ 1000000000
instance (c : Int) : Decidable (inCoins c) := by unfold inCoins; infer_instance
def refBring (M : BookM) (nm : Str) (c : Int) : Option Str := match M.mem? nm with
  | none => some "Unknown"
  | some _ => if inCoins c then none else some "BadNumber"
def refTake (M : BookM) (nm : Str) (c : Int) : Option Str := match M.mem? nm with
  | none => some "Unknown"
  | some m => if inCoins c then (if m.coins < c then some "Short" else none) else some "BadNumber"
section
variable {P : Program} {w : World} {K : PySem.W.Frag} {mg : Str → Option Value} {base : Heap}
def Top.cls (T : Top K mg) (c : Str) : Addr := if c = "BadName" then T.f_BadName else if c = "BadNumber" then T.f_BadNumber else if c = "Known" then T.f_Known else if c = "Unknown" then T.f_Unknown else if c = "Seated" then T.f_Seated else if c = "Holding" then T.f_Holding else T.f_Short
theorem Top.cls_BadName (T : Top K mg) : T.cls "BadName" = T.f_BadName := rfl
theorem Top.cls_BadNumber (T : Top K mg) : T.cls "BadNumber" = T.f_BadNumber := by unfold Top.cls; rw [if_neg (by decide +kernel), if_pos rfl]
theorem Top.cls_Known (T : Top K mg) : T.cls "Known" = T.f_Known := by unfold Top.cls; rw [if_neg (by decide +kernel), if_neg (by decide +kernel), if_pos rfl]
theorem Top.cls_Unknown (T : Top K mg) : T.cls "Unknown" = T.f_Unknown := by unfold Top.cls; rw [if_neg (by decide +kernel), if_neg (by decide +kernel), if_neg (by decide +kernel), if_pos rfl]
theorem Top.cls_Holding (T : Top K mg) : T.cls "Holding" = T.f_Holding := by unfold Top.cls; rw [if_neg (by decide +kernel), if_neg (by decide +kernel), if_neg (by decide +kernel), if_neg (by decide +kernel), if_neg (by decide +kernel), if_pos rfl]
theorem Top.cls_Short (T : Top K mg) : T.cls "Short" = T.f_Short := by unfold Top.cls; rw [if_neg (by decide +kernel), if_neg (by decide +kernel), if_neg (by decide +kernel), if_neg (by decide +kernel), if_neg (by decide +kernel), if_neg (by decide +kernel)]
/-- a deed refused, or done -/
def Ends2 (T : Top K mg) (r : Option Str) (H : Hp) (d : BookD) (Af : BookM → Prop) (Q : VK) (E : XK) : Prop :=
  (∀ c, r = some c → ∀ H', Ex H H' → E (.ref (T.cls c)) none H') ∧ (r = none → ∀ H' M', FrT d.mut H H' → BookAt T.f_Books H' d M' → Af M' → Q .non H')
def Small (M : BookM) : Prop := M.mems.length < 49000 ∧ M.trail.length < 49000
theorem s_dropM1 {C a dx : Addr} {fs : List (Str × V)} {m : Str} {sp : Sp} {E : XK} {te t1 : TE} {σ : L2.St} {H : Hp} {D : Ends} {v1 : V} (h : Ev te σ H (.ref a)) (ha : H a = some (.ins C dx fs)) (hm : fs.lookup m = none) (h1 : Ev t1 σ H v1)
    (k : ∀ H1, Ex H H1 → sp [.ref a, v1] H1 (fun _ H2 => D.nx σ H2) E) : tDrop (tMeth C m sp [] E te (tCons t1 tNil)) D σ H :=
  h H (Ex.refl _) _ fun H1 e1 => ⟨a, dx, fs, rfl, e1 _ _ ha, hm, (ea_cons h1 ea_nil) H1 e1 _ fun H2 e2 => k H2 (e1.trans e2)⟩
theorem s_dropM2 {C a dx : Addr} {fs : List (Str × V)} {m : Str} {sp : Sp} {E : XK} {te t1 t2 : TE} {σ : L2.St} {H : Hp} {D : Ends} {v1 v2 : V} (h : Ev te σ H (.ref a)) (ha : H a = some (.ins C dx fs)) (hm : fs.lookup m = none) (h1 : Ev t1 σ H v1) (h2 : Ev t2 σ H v2)
    (k : ∀ H1, Ex H H1 → sp [.ref a, v1, v2] H1 (fun _ H2 => D.nx σ H2) E) : tDrop (tMeth C m sp [] E te (tCons t1 (tCons t2 tNil))) D σ H :=
  h H (Ex.refl _) _ fun H1 e1 => ⟨a, dx, fs, rfl, e1 _ _ ha, hm, (ea_cons h1 (ea_cons h2 ea_nil)) H1 e1 _ fun H2 e2 => k H2 (e1.trans e2)⟩
theorem q_dropM1 {C a dx : Addr} {fs : List (Str × V)} {m : Str} {sp : Sp} {E : XK} {te t1 : TE} {σ : L2.St} {H : Hp} {D : Ends} {tz : TS} {v1 : V} (h : Ev te σ H (.ref a)) (ha : H a = some (.ins C dx fs)) (hm : fs.lookup m = none) (h1 : Ev t1 σ H v1)
    (k : ∀ H1, Ex H H1 → sp [.ref a, v1] H1 (fun _ H2 => tz D σ H2) E) : tSeq (tDrop (tMeth C m sp [] E te (tCons t1 tNil))) tz D σ H := s_dropM1 (D := { D with nx := tz D }) h ha hm h1 k
theorem q_dropM2 {C a dx : Addr} {fs : List (Str × V)} {m : Str} {sp : Sp} {E : XK} {te t1 t2 : TE} {σ : L2.St} {H : Hp} {D : Ends} {tz : TS} {v1 v2 : V} (h : Ev te σ H (.ref a)) (ha : H a = some (.ins C dx fs)) (hm : fs.lookup m = none) (h1 : Ev t1 σ H v1) (h2 : Ev t2 σ H v2)
    (k : ∀ H1, Ex H H1 → sp [.ref a, v1, v2] H1 (fun _ H2 => tz D σ H2) E) : tSeq (tDrop (tMeth C m sp [] E te (tCons t1 (tCons t2 tNil)))) tz D σ H := s_dropM2 (D := { D with nx := tz D }) h ha hm h1 h2 k
theorem q_dropC {sp : Sp} {dvs vs : List V} {E : XK} {ta : TA} {σ : L2.St} {H : Hp} {D : Ends} {tz : TS} (h : EvA ta σ H vs) (k : ∀ H1, Ex H H1 → sp (vs ++ dvs) H1 (fun _ H2 => tz D σ H2) E) : tSeq (tDrop (tCall sp dvs E ta)) tz D σ H := s_dropC (D := { D with nx := tz D }) h k
theorem q_asgM {C a dx : Addr} {fs : List (Str × V)} {m : Str} {sp : Sp} {E : XK} {te : TE} {t : TA} {σ : L2.St} {H : Hp} {D : Ends} {tz : TS} {vs : List V} {i : Nat} (h : Ev te σ H (.ref a)) (ha : H a = some (.ins C dx fs)) (hm : fs.lookup m = none) (hA : EvA t σ H vs)
    (k : ∀ H1, Ex H H1 → sp (.ref a :: (vs ++ [])) H1 (fun v H2 => tz D (σ.set i (some v)) H2) E) : tSeq (tAsg (tMeth C m sp [] E te t) (gName i)) tz D σ H :=
  h H (Ex.refl _) _ fun H1 e1 => ⟨a, dx, fs, rfl, e1 _ _ ha, hm, hA H1 e1 _ fun H2 e2 => k H2 (e1.trans e2)⟩
def afEnter (M : BookM) (nm : Str) (M' : BookM) : Prop := ∃ a p, M' = M.addMember nm a p
def spEnter (T : Top K mg) : Sp := fun vs H Q E => ∃ (d : BookD) (M : BookM) (nm : Str), vs = [.ref d.b, .str nm] ∧ BookAt T.f_Books H d M ∧ nm.length ≤ 40000 ∧ Small M ∧ Ends2 T (refEnter M nm) H d (afEnter M nm) Q E
theorem ok_enter {f : Addr} {fd : FuncData} (F : Fun K "enter" "enter" s_enter f fd) (T : Top K mg) : FnOk P w K mg base (L2.CX P w) 4 f fd ["books", "name"] (spEnter T) := by
  have nd := sc_enter.nd
  have G_is_name : FnOk P w K mg base CX0 1 T.f_is_name T.fd_is_name ["text"] spIsName := ok_is_name T.F_is_name T
  have G_Books_has_member : FnOk P w K mg base CX0 1 T.f_Books_has_member T.fd_Books_has_member ["self", "name"] (spHasMem T.f_Books) := ok_Books_has_member T.F_Books_has_member T
  have G_Books_add_member : FnOk P w K mg base CX0 3 T.f_Books_add_member T.fd_Books_add_member ["self", "name"] (spAddMember T.f_Books) := ok_Books_add_member T.F_Books_add_member T
  refine F.okX sc_enter (fun vs H Q E h => ?_) (fun cdv A outer s H vs Q E hr h => ?_)
  · obtain ⟨d, M, nm, rfl, _⟩ := h
    rfl
  · obtain ⟨d, M, nm, rfl, hB, hl, hz, qx, q⟩ := h
    refine ⟨_, (pss_cons (ps_if (pt_not (pt_val (pe_call G_is_name (hr.mono (by omega)) (by rfl) T.m_is_name T.F_is_name.kp T.b_is_name .nil pass0 (pa_cons (pv 1) pa_nil))))
        (pss_one (ps_raise rfl (takes_of rfl rfl rfl rfl) (pmk_own0 PySem.F.excBase_ValueError T.x_BadName T.m_BadName T.kp_BadName (raises_own T.sb_BadName T.ty_BadName) (by rfl))))
        pss_nil)
      (pss_cons (ps_if (pt_val (pe_meth (pv 0) T.cl_Books T.mt_Books_has_member G_Books_has_member (hr.mono (by omega)) T.b_Books_has_member .nil pass0 (pa_cons (pv 1) pa_nil)))
        (pss_one (ps_raise rfl (takes_of rfl rfl rfl rfl) (pmk_own0 PySem.F.excBase_ValueError T.x_Known T.m_Known T.kp_Known (raises_own T.sb_Known T.ty_Known) (by rfl))))
        pss_nil)
      (pss_one (ps_expr (pe_meth (pv 0) T.cl_Books T.mt_Books_add_member G_Books_add_member (hr.mono (by omega)) T.b_Books_add_member .nil pass0 (pa_cons (pv 1) pa_nil)))))), ?_⟩
    refine q_when (b := !isNameB nm) (et_not (et_B (ev_call (ea_cons (ev_var rfl) ea_nil) (spV_isName hl)))) (fun hb H1 e1 => ?_) (fun hb H1 e1 => ?_)
    · exact T.cls_BadName ▸ qx "BadName" (by unfold refEnter; rw [if_pos (by simpa using hb)]) H1 e1
    have hn : isNameB nm = true := by simpa using hb
    have hB1 := hB.ex e1
    refine q_when (b := (M.mem? nm).isSome) (et_B (ev_meth (ev_var rfl) hB1.hb rfl (ea_cons (ev_var rfl) ea_nil) fun H2 e2 Q2 q2 _ => ⟨d, M, nm, rfl, hB1.ex e2, q2⟩)) (fun hb2 H2 e2 => ?_) (fun hb2 H2 e2 => ?_)
    · exact T.cls_Known ▸ qx "Known" (by unfold refEnter; rw [if_neg (by rw [hn]; decide), if_pos hb2]) H2 (e1.trans e2)
    have hm : M.mem? nm = none := by simpa using hb2
    refine s_dropM1 (ev_var rfl) (hB1.ex e2).hb rfl (ev_var rfl) fun H3 e3 => ⟨d, M, nm, rfl, (hB1.ex e2).ex e3, hm, Nat.lt_trans hz.1 (by decide), Nat.lt_trans hz.2 (by decide), fun H' a p fr hB' => ?_⟩
    exact q (by unfold refEnter; rw [if_neg (by rw [hn]; decide), if_neg (by rw [hm]; decide)]) H' _ ((FrT.ex ((e1.trans e2).trans e3)).trans fr) hB' ⟨a, p, rfl⟩
theorem ev_anyB {te : TE} {σ : L2.St} {H : Hp} {bs : List Bool} {b : Bool} (h : EvL te σ H (bs.map V.bl)) (hb : bs.any id = b) : Ev (tCB (rAny K) (tCons te tNil)) σ H (.bl b) := fun H1 e Q q =>
  h H1 e _ fun p H2 _ e2 h2 => ⟨p, bs, rfl, sq_of h2, by rw [hb]; exact q H2 e2⟩
def spNever : Sp := fun _ _ _ _ => False
theorem ok_never {CX : CXT} {x qual : Str} {st : Stmt} {f : Addr} {fd : FuncData} {N ps : List Str} (F : Fun K x qual st f fd) (S : FnScope N ps (defScope st)) : FnOk P w K mg base CX0 1 f fd ps spNever := F.ok S (fun _ _ _ _ h => h.elim) (fun _ _ _ _ _ _ _ _ _ h => h.elim)
def spAllTables (C : Addr) : Sp := fun vs H Q _ => ∃ (d : BookD) (M : BookM), vs = [.ref d.b] ∧ BookAt C H d M ∧ ∀ H' p, H p = none → Ex H H' → H' p = some (.lst (M.tabs.map fun t => .ref t.2)) → Q (.ref p) H'
theorem ok_Books_all_tables {f : Addr} {fd : FuncData} (F : Fun K "all_tables" "Books.all_tables" s_Books_all_tables f fd) (T : Top K mg) : FnOk P w K mg base CX0 1 f fd ["self"] (spAllTables T.f_Books) := by
  have nd := sc_Books_all_tables.nd
  refine F.ok sc_Books_all_tables (fun vs H Q E h => ?_) (fun cdv A outer s H vs Q E hr h => ?_)
  · obtain ⟨d, M, rfl, _⟩ := h
    rfl
  · obtain ⟨d, M, rfl, hB, q⟩ := h
    refine ⟨_, (pss_one (ps_ret (pe_listVals rfl (by rfl) T.m_list (pe_dget (hu_of hr) (pe_fldK (K := K) rfl (pv 0) rfl) (pe_glob (v := .str "tables") (by rfl) T.m_TABLES ⟨_, rfl⟩) (fun _ _ => rfl))))), ?_⟩
    refine s_retL (el_dvals (hB.tabs_at T rfl (ev_var rfl) ev_c) hB.hts) fun p H1 hp e1 h1 => q H1 p hp e1 ?_
    rw [List.map_map] at h1
    exact h1
def afPart (M : BookM) (nm : Str) (M' : BookM) : Prop := ∃ m p, M.mem? nm = some m ∧ M' = M.dropMember m p
def spPart (T : Top K mg) : Sp := fun vs H Q E => ∃ (d : BookD) (M : BookM) (nm : Str), vs = [.ref d.b, .str nm] ∧ BookAt T.f_Books H d M ∧ M.tabs = [] ∧ Small M ∧ Ends2 T (refPart M nm) H d (afPart M nm) Q E
theorem ok_part {f : Addr} {fd : FuncData} (F : Fun K "part" "part" s_part f fd) (T : Top K mg) : FnOk P w K mg base (L2.CX P w) 4 f fd ["books", "name"] (spPart T) := by
  have nd := sc_part.nd
  have G_Books_purse_of : FnOk P w K mg base (L2.CX P w) 2 T.f_Books_purse_of T.fd_Books_purse_of ["self", "name"] (spPurseOf T.f_Books T.f_Unknown) := ok_Books_purse_of T.F_Books_purse_of T
  have G_Books_all_tables : FnOk P w K mg base CX0 1 T.f_Books_all_tables T.fd_Books_all_tables ["self"] (spAllTables T.f_Books) := ok_Books_all_tables T.F_Books_all_tables T
  have G_Circle_ended : FnOk P w K mg base CX0 1 T.f_Circle_ended T.fd_Circle_ended ["self"] spNever := ok_never (CX := CX0) T.F_Circle_ended sc_Circle_ended
  have G_Books_drop_member : FnOk P w K mg base CX0 3 T.f_Books_drop_member T.fd_Books_drop_member ["self", "name"] (spDropMember T.f_Books) := ok_Books_drop_member T.F_Books_drop_member T
  refine F.okX sc_part (fun vs H Q E h => ?_) (fun cdv A outer s H vs Q E hr h => ?_)
  · obtain ⟨d, M, nm, rfl, _⟩ := h
    rfl
  · obtain ⟨d, M, nm, rfl, hB, hT, hz, qx, q⟩ := h
    refine ⟨_, (pss_cons (ps_set (i := 2) nd rfl (.inl rfl) (pe_meth (pv 0) T.cl_Books T.mt_Books_purse_of G_Books_purse_of (hr.mono (by omega)) T.b_Books_purse_of .nil (passes_call (takes_of rfl rfl rfl rfl) (fun _ _ _ _ h => h)) (pa_cons (pv 1) pa_nil)))
      (pss_cons (ps_if (pt_val (pe_callB (cr_any rfl) (by rfl) T.m_any (by decide +kernel) (pa_cons (pe_lc (own := [("table", 3)]) (g := gName 3) (tt := tYes) rfl nd (pi_list (pe_meth0 (pv 0) T.cl_Books T.mt_Books_all_tables G_Books_all_tables (hr.mono (by omega)) T.b_Books_all_tables .nil pass0 )) (blkOk_by (own := [("table", 3)]) (N := Su.N_part) (sc := defScope s_part) (by decide +kernel)) (fun _ _ _ _ _ => (pg_name (i := 3) nd rfl (.inl rfl))) (fun _ _ _ _ _ => pts_nil) (fun _ _ _ _ _ => (pe_and (pe_cmpR (op_in_seqK (K := K) rfl) (pv 1) (pe_fldK (K := K) rfl (pv 3) rfl) rfl) (pe_one (pe_not (pe_meth0 (pe_fldK (K := K) rfl (pv 3) rfl) T.cl_Circle T.mt_Circle_ended G_Circle_ended (hr.mono (by omega)) T.b_Circle_ended .nil pass0 )))))) pa_nil)))
        (pss_one (ps_raise rfl (takes_of rfl rfl rfl rfl) (pmk_own0 PySem.F.excBase_ValueError T.x_Seated T.m_Seated T.kp_Seated (raises_own T.sb_Seated T.ty_Seated) (by rfl))))
        pss_nil)
      (pss_cons (ps_if (pt_cmpR op_gt (pv 2) pe_int (nomark _))
        (pss_one (ps_raise rfl (takes_of rfl rfl rfl rfl) (pmk_own0 PySem.F.excBase_ValueError T.x_Holding T.m_Holding T.kp_Holding (raises_own T.sb_Holding T.ty_Holding) (by rfl))))
        pss_nil)
      (pss_one (ps_expr (pe_meth (pv 0) T.cl_Books T.mt_Books_drop_member G_Books_drop_member (hr.mono (by omega)) T.b_Books_drop_member .nil pass0 (pa_cons (pv 1) pa_nil))))))), ?_⟩
    refine q_asgM (ev_var rfl) hB.hb rfl (ea_cons (ev_var rfl) ea_nil) fun H1 e1 => ⟨d, M, nm, rfl, hB.ex e1, fun m hm H2 e2 => ?_, fun hm H2 e2 => T.cls_Unknown ▸ qx "Unknown" (by unfold refPart; rw [hm]) H2 (e1.trans e2)⟩
    have e12 := e1.trans e2
    have hB2 := hB.ex e12
    have r1 : refPart M nm = (if 0 < m.coins then some ("Holding" : Str) else none) := by unfold refPart; rw [hm]
    have hnm := (BookM.mem?_mem hm).2
    dsimp only
    refine q_when (b := false) (et_B (ev_anyB (bs := []) ?_ rfl)) (fun hb => by cases hb) fun _ H3 e3 => ?_
    · exact el_lcNL (xs := []) (fun _ => true) (fun _ => .non) (el_meth (ev_var rfl) hB2.hb rfl ea_nil fun H3 e3 Q3 q3 _ => ⟨d, M, rfl, hB2.ex e3, fun H' p hp e h => q3 p H' hp e (by rw [hT] at h; exact h)⟩) (Nat.zero_le _) (fun _ => rfl) (fun i x Hb _ hx => nomatch hx) (fun i x Hb _ hx => nomatch hx)
    have hB3 := hB2.ex e3
    refine q_when (b := decide (m.coins > 0)) (et_test (ev_op (ev_var rfl) ev_c rv_I0)) (fun hb H4 e4 => ?_) (fun hb H4 e4 => ?_)
    · exact T.cls_Holding ▸ qx "Holding" (by rw [r1, if_pos (of_decide_eq_true hb)]) H4 ((e12.trans e3).trans e4)
    refine s_dropM1 (ev_var rfl) (hB3.ex e4).hb rfl (ev_var rfl) fun H5 e5 => ⟨d, M, m, by rw [hnm], (hB3.ex e4).ex e5, by rw [hnm]; exact hm, Nat.lt_trans hz.1 (by decide), Nat.lt_trans hz.2 (by decide), fun H' p fr hB' => ?_⟩
    exact q (by rw [r1, if_neg (of_decide_eq_false hb)]) H' _ ((FrT.ex (((e12.trans e3).trans e4).trans e5)).trans fr) hB' ⟨m, p, hm, rfl⟩
def afCoins (M : BookM) (nm : Str) (c : Int) (M' : BookM) : Prop := ∃ m a p p', M.mem? nm = some m ∧ M' = (M.addCoins m c a p).addBrought c p'
def spBring (T : Top K mg) : Sp := fun vs H Q E => ∃ (d : BookD) (M : BookM) (nm : Str) (c : Int), vs = [.ref d.b, .str nm, .int c] ∧ BookAt T.f_Books H d M ∧ Small M ∧ Ends2 T (refBring M nm c) H d (afCoins M nm c) Q E
theorem addCoins_trail (M : BookM) (m : Mem) (c : Int) (a p : Addr) : (M.addCoins m c a p).trail.length = M.trail.length + 1 := by unfold BookM.addCoins; simp
theorem ok_bring {f : Addr} {fd : FuncData} (F : Fun K "bring" "bring" s_bring f fd) (T : Top K mg) : FnOk P w K mg base (L2.CX P w) 4 f fd ["books", "name", "coins"] (spBring T) := by
  have nd := sc_bring.nd
  have G_Books_purse_of : FnOk P w K mg base (L2.CX P w) 2 T.f_Books_purse_of T.fd_Books_purse_of ["self", "name"] (spPurseOf T.f_Books T.f_Unknown) := ok_Books_purse_of T.F_Books_purse_of T
  have G_refuse_beyond : FnOk P w K mg base (L2.CX P w) 1 T.f_refuse_beyond T.fd_refuse_beyond ["coins", "least", "most"] (spBeyond T.f_BadNumber) := ok_refuse_beyond T.F_refuse_beyond T
  have G_Books_add_coins : FnOk P w K mg base CX0 3 T.f_Books_add_coins T.fd_Books_add_coins ["self", "name", "coins"] (spAddCoins T.f_Books) := ok_Books_add_coins T.F_Books_add_coins T
  have G_Books_add_brought : FnOk P w K mg base CX0 3 T.f_Books_add_brought T.fd_Books_add_brought ["self", "coins"] (spAddBrought T.f_Books) := ok_Books_add_brought T.F_Books_add_brought T
  refine F.okX sc_bring (fun vs H Q E h => ?_) (fun cdv A outer s H vs Q E hr h => ?_)
  · obtain ⟨d, M, nm, c, rfl, _⟩ := h
    rfl
  · obtain ⟨d, M, nm, c, rfl, hB, hz, qx, q⟩ := h
    refine ⟨_, (pss_cons (ps_expr (pe_meth (pv 0) T.cl_Books T.mt_Books_purse_of G_Books_purse_of (hr.mono (by omega)) T.b_Books_purse_of .nil (passes_call (takes_of rfl rfl rfl rfl) (fun _ _ _ _ h => h)) (pa_cons (pv 1) pa_nil)))
      (pss_cons (ps_expr (pe_call G_refuse_beyond (hr.mono (by omega)) (by rfl) T.m_refuse_beyond T.F_refuse_beyond.kp T.b_refuse_beyond .nil (passes_call (takes_of rfl rfl rfl rfl) (fun _ _ _ _ h => h)) (pa_cons (pv 2) (pa_cons pe_int (pa_cons (pe_glob (v := .int 1000000000) (by rfl) T.m_MOST_COINS ⟨_, rfl⟩) pa_nil)))))
      (pss_cons (ps_expr (pe_meth (pv 0) T.cl_Books T.mt_Books_add_coins G_Books_add_coins (hr.mono (by omega)) T.b_Books_add_coins .nil pass0 (pa_cons (pv 1) (pa_cons (pv 2) pa_nil))))
      (pss_one (ps_expr (pe_meth (pv 0) T.cl_Books T.mt_Books_add_brought G_Books_add_brought (hr.mono (by omega)) T.b_Books_add_brought .nil pass0 (pa_cons (pv 2) pa_nil))))))), ?_⟩
    refine q_dropM1 (ev_var rfl) hB.hb rfl (ev_var rfl) fun H1 e1 => ⟨d, M, nm, rfl, hB.ex e1, fun m hm H2 e2 => ?_, fun hm H2 e2 => T.cls_Unknown ▸ qx "Unknown" (by unfold refBring; rw [hm]) H2 (e1.trans e2)⟩
    have r1 : refBring M nm c = (if inCoins c then none else some ("BadNumber" : Str)) := by unfold refBring; rw [hm]
    have hnm := (BookM.mem?_mem hm).2
    refine q_dropC (ea_cons (ev_var rfl) (ea_cons ev_c (ea_cons ev_c ea_nil))) fun H3 e3 => ⟨c, 1, 1000000000, rfl, fun hin H4 e4 => ?_, fun hin H4 e4 => T.cls_BadNumber ▸ qx "BadNumber" (by rw [r1, if_neg (show ¬ inCoins c from hin)]) H4 (((e1.trans e2).trans e3).trans e4)⟩
    have e14 := ((e1.trans e2).trans e3).trans e4
    have hB4 := hB.ex e14
    refine q_dropM2 (ev_var rfl) hB4.hb rfl (ev_var rfl) (ev_var rfl) fun H5 e5 => ⟨d, M, m, c, by rw [hnm], hB4.ex e5, by rw [hnm]; exact hm, Nat.lt_trans hz.1 (by decide), Nat.lt_trans hz.2 (by decide), fun H6 a p fr hB6 => ?_⟩
    refine s_dropM1 (ev_var rfl) hB6.hb rfl (ev_var rfl) fun H7 e7 => ⟨d, M.addCoins m c a p, c, rfl, hB6.ex e7, by rw [addCoins_trail]; have := hz.2; omega, fun H8 p' fr' hB8 => ?_⟩
    exact q (by rw [r1, if_pos (show inCoins c from hin)]) H8 _ ((FrT.ex (e14.trans e5)).trans (fr.trans ((FrT.ex e7).trans fr'))) hB8 ⟨m, a, p, p', hm, rfl⟩
def spTake (T : Top K mg) : Sp := fun vs H Q E => ∃ (d : BookD) (M : BookM) (nm : Str) (c : Int), vs = [.ref d.b, .str nm, .int c] ∧ BookAt T.f_Books H d M ∧ Small M ∧ Ends2 T (refTake M nm c) H d (afCoins M nm (-c)) Q E
theorem ok_take {f : Addr} {fd : FuncData} (F : Fun K "take" "take" s_take f fd) (T : Top K mg) : FnOk P w K mg base (L2.CX P w) 4 f fd ["books", "name", "coins"] (spTake T) := by
  have nd := sc_take.nd
  have G_Books_purse_of : FnOk P w K mg base (L2.CX P w) 2 T.f_Books_purse_of T.fd_Books_purse_of ["self", "name"] (spPurseOf T.f_Books T.f_Unknown) := ok_Books_purse_of T.F_Books_purse_of T
  have G_refuse_beyond : FnOk P w K mg base (L2.CX P w) 1 T.f_refuse_beyond T.fd_refuse_beyond ["coins", "least", "most"] (spBeyond T.f_BadNumber) := ok_refuse_beyond T.F_refuse_beyond T
  have G_Books_refuse_short : FnOk P w K mg base (L2.CX P w) 3 T.f_Books_refuse_short T.fd_Books_refuse_short ["self", "name", "coins"] (spShort T.f_Books T.f_Unknown T.f_Short) := ok_Books_refuse_short T.F_Books_refuse_short T
  have G_Books_add_coins : FnOk P w K mg base CX0 3 T.f_Books_add_coins T.fd_Books_add_coins ["self", "name", "coins"] (spAddCoins T.f_Books) := ok_Books_add_coins T.F_Books_add_coins T
  have G_Books_add_brought : FnOk P w K mg base CX0 3 T.f_Books_add_brought T.fd_Books_add_brought ["self", "coins"] (spAddBrought T.f_Books) := ok_Books_add_brought T.F_Books_add_brought T
  refine F.okX sc_take (fun vs H Q E h => ?_) (fun cdv A outer s H vs Q E hr h => ?_)
  · obtain ⟨d, M, nm, c, rfl, _⟩ := h
    rfl
  · obtain ⟨d, M, nm, c, rfl, hB, hz, qx, q⟩ := h
    refine ⟨_, (pss_cons (ps_expr (pe_meth (pv 0) T.cl_Books T.mt_Books_purse_of G_Books_purse_of (hr.mono (by omega)) T.b_Books_purse_of .nil (passes_call (takes_of rfl rfl rfl rfl) (fun _ _ _ _ h => h)) (pa_cons (pv 1) pa_nil)))
      (pss_cons (ps_expr (pe_call G_refuse_beyond (hr.mono (by omega)) (by rfl) T.m_refuse_beyond T.F_refuse_beyond.kp T.b_refuse_beyond .nil (passes_call (takes_of rfl rfl rfl rfl) (fun _ _ _ _ h => h)) (pa_cons (pv 2) (pa_cons pe_int (pa_cons (pe_glob (v := .int 1000000000) (by rfl) T.m_MOST_COINS ⟨_, rfl⟩) pa_nil)))))
      (pss_cons (ps_expr (pe_meth (pv 0) T.cl_Books T.mt_Books_refuse_short G_Books_refuse_short (hr.mono (by omega)) T.b_Books_refuse_short .nil (passes_call (takes_of rfl rfl rfl rfl) (fun _ _ _ _ h => h)) (pa_cons (pv 1) (pa_cons (pv 2) pa_nil))))
      (pss_cons (ps_expr (pe_meth (pv 0) T.cl_Books T.mt_Books_add_coins G_Books_add_coins (hr.mono (by omega)) T.b_Books_add_coins .nil pass0 (pa_cons (pv 1) (pa_cons (pe_un un_neg (pv 2)) pa_nil))))
      (pss_one (ps_expr (pe_meth (pv 0) T.cl_Books T.mt_Books_add_brought G_Books_add_brought (hr.mono (by omega)) T.b_Books_add_brought .nil pass0 (pa_cons (pe_un un_neg (pv 2)) pa_nil)))))))), ?_⟩
    refine q_dropM1 (ev_var rfl) hB.hb rfl (ev_var rfl) fun H1 e1 => ⟨d, M, nm, rfl, hB.ex e1, fun m hm H2 e2 => ?_, fun hm H2 e2 => T.cls_Unknown ▸ qx "Unknown" (by unfold refTake; rw [hm]) H2 (e1.trans e2)⟩
    have r1 : refTake M nm c = (if inCoins c then (if m.coins < c then some ("Short" : Str) else none) else some ("BadNumber" : Str)) := by unfold refTake; rw [hm]
    have hnm := (BookM.mem?_mem hm).2
    refine q_dropC (ea_cons (ev_var rfl) (ea_cons ev_c (ea_cons ev_c ea_nil))) fun H3 e3 => ⟨c, 1, 1000000000, rfl, fun hin H4 e4 => ?_, fun hin H4 e4 => T.cls_BadNumber ▸ qx "BadNumber" (by rw [r1, if_neg (show ¬ inCoins c from hin)]) H4 (((e1.trans e2).trans e3).trans e4)⟩
    have e14 := ((e1.trans e2).trans e3).trans e4
    have hB4 := hB.ex e14
    refine q_dropM2 (ev_var rfl) hB4.hb rfl (ev_var rfl) (ev_var rfl) fun H5 e5 => ⟨d, M, m, c, by rw [hnm], hB4.ex e5, by rw [hnm]; exact hm, fun hle H6 e6 => ?_, fun hlt H6 e6 => T.cls_Short ▸ qx "Short" (by rw [r1, if_pos (show inCoins c from hin), if_pos hlt]) H6 ((e14.trans e5).trans e6)⟩
    have e16 := (e14.trans e5).trans e6
    have hB6 := hB.ex e16
    refine q_dropM2 (v2 := .int (-c)) (ev_var rfl) hB6.hb rfl (ev_var rfl) (ev_un (ev_var rfl) ru_neg) fun H7 e7 => ⟨d, M, m, -c, by rw [hnm], hB6.ex e7, by rw [hnm]; exact hm, Nat.lt_trans hz.1 (by decide), Nat.lt_trans hz.2 (by decide), fun H8 a p fr hB8 => ?_⟩
    refine s_dropM1 (v1 := .int (-c)) (ev_var rfl) hB8.hb rfl (ev_un (ev_var rfl) ru_neg) fun H9 e9 => ⟨d, M.addCoins m (-c) a p, -c, rfl, hB8.ex e9, by rw [addCoins_trail]; have := hz.2; omega, fun H10 p' fr' hB10 => ?_⟩
    exact q (by rw [r1, if_pos (show inCoins c from hin), if_neg (by omega)]) H10 _ ((FrT.ex (e16.trans e7)).trans (fr.trans ((FrT.ex e9).trans fr'))) hB10 ⟨m, a, p, p', hm, rfl⟩
end

end Su
namespace Su
/-! ### the house -/
structure HouseD where
  h : Addr
  dx : Addr
  bk : BookD
  kp : Addr
  un : Addr
structure KeptM where
  a : Addr
  row : V
  mark : Int
structure HouseM where
  bk : BookM
  kept : List KeptM
  undone : List V
def HouseD.mut (d : HouseD) : List Addr := d.h :: d.kp :: d.un :: d.bk.mut
structure HouseAt (CH CB : Addr) (H : Hp) (d : HouseD) (M : HouseM) : Prop where
  hh : H d.h = some (.ins CH d.dx [("books", .ref d.bk.b), ("kept", .ref d.kp), ("undone", .ref d.un)])
  hb : BookAt CB H d.bk M.bk
  hk : H d.kp = some (.lst (M.kept.map fun k => .ref k.a))
  hkt : ∀ k ∈ M.kept, H k.a = some (.tup [k.row, .int k.mark])
  hu : H d.un = some (.lst M.undone)
  ne : d.kp ≠ d.bk.tr ∧ d.un ≠ d.bk.tr ∧ d.kp ≠ d.un ∧ d.h ≠ d.bk.b
section
variable {CH CB : Addr} {H H' : Hp} {d : HouseD} {M : HouseM}
theorem HouseAt.ex (h : HouseAt CH CB H d M) (e : Ex H H') : HouseAt CH CB H' d M := ⟨e _ _ h.hh, h.hb.ex e, e _ _ h.hk, fun k hk => e _ _ (h.hkt k hk), e _ _ h.hu, h.ne⟩
theorem HouseAt.exN (h : HouseAt CH CB H d M) (e : LamX.ExtN H H') : HouseAt CH CB H' d M := ⟨e _ _ h.hh (fun _ z => nomatch z), h.hb.exN e, e _ _ h.hk (fun _ z => nomatch z), fun k hk => e _ _ (h.hkt k hk) (fun _ z => nomatch z), e _ _ h.hu (fun _ z => nomatch z), h.ne⟩
/-- what is no dict, no list of the books stays when the books change -/
theorem BookAt.out {C : Addr} {H H' : Hp} {d : BookD} {M : BookM} (h : BookAt C H d M) (f : FrT d.mut H H') {a : Addr} {o : HO} (ha : H a = some o) (nt : ∀ ps, o ≠ .tbl ps) (nd : ∀ kvs, o ≠ .dK kvs) (nl : a = d.tr → False) : H' a = some o := f a o ha nt fun z => by
  simp only [BookD.mut, List.mem_cons, List.not_mem_nil, or_false] at z
  rcases z with rfl | rfl | rfl | rfl
  · rw [h.hms] at ha; exact nd _ (Option.some.inj ha).symm
  · rw [h.hts] at ha; exact nd _ (Option.some.inj ha).symm
  · rw [h.hss] at ha; exact nd _ (Option.some.inj ha).symm
  · exact nl rfl
/-- behind a change of the books -/
theorem HouseAt.books {bk : BookM} (h : HouseAt CH CB H d M) (f : FrT d.bk.mut H H') (hb : BookAt CB H' d.bk bk) : HouseAt CH CB H' d { M with bk := bk } := by
  have tup : ∀ {a xs}, H a = some (.tup xs) → H' a = some (.tup xs) := fun {a xs} ha => h.hb.out f ha (fun _ z => nomatch z) (fun _ z => nomatch z) fun z => by rw [z, h.hb.htr] at ha; cases ha
  exact ⟨h.hb.out f h.hh (fun _ z => nomatch z) (fun _ z => nomatch z) (fun z => by have := h.hh; rw [z, h.hb.htr] at this; cases this), hb, h.hb.out f h.hk (fun _ z => nomatch z) (fun _ z => nomatch z) h.ne.1, fun k hk => tup (h.hkt k hk), h.hb.out f h.hu (fun _ z => nomatch z) (fun _ z => nomatch z) h.ne.2.1, h.ne⟩
theorem FrT.house {d : HouseD} {H H' : Hp} (f : FrT d.bk.mut H H') : FrT d.mut H H' := f.mono fun x hx => by unfold HouseD.mut; simp [hx]
/-- a pair more is kept -/
theorem HouseAt.keep {p : Addr} {row : V} {mark : Int} (h : HouseAt CH CB H d M) (hp : H p = some (.tup [row, .int mark])) : HouseAt CH CB (upd H d.kp (.lst ((M.kept.map fun k => .ref k.a) ++ [.ref p]))) d { M with kept := M.kept ++ [⟨p, row, mark⟩] } := by
  have stay : ∀ b o, H b = some o → (∀ l, o ≠ .lst l) → (upd H d.kp (.lst ((M.kept.map fun k => .ref k.a) ++ [.ref p]))) b = some o := fun b o hb nl => by
    rw [upd_ne (fun z => by rw [z, h.hk] at hb; exact nl _ (Option.some.inj hb).symm)]
    exact hb
  have lst : ∀ b l, H b = some (.lst l) → b ≠ d.kp → (upd H d.kp (.lst ((M.kept.map fun k => .ref k.a) ++ [.ref p]))) b = some (.lst l) := fun b l hb nb => by
    rw [upd_ne nb]
    exact hb
  have hb := h.hb
  refine ⟨stay _ _ h.hh (fun _ z => nomatch z), ⟨stay _ _ hb.hb (fun _ z => nomatch z), stay _ _ hb.hsh (fun _ z => nomatch z), stay _ _ hb.hms (fun _ z => nomatch z), fun m hm => stay _ _ (hb.hmt m hm) (fun _ z => nomatch z), hb.nd, stay _ _ hb.hts (fun _ z => nomatch z), stay _ _ hb.hss (fun _ z => nomatch z), lst _ _ hb.htr h.ne.1.symm, fun t ht => stay _ _ (hb.htt t ht) (fun _ z => nomatch z), hb.ne⟩, ?_, fun k hk => ?_, lst _ _ h.hu h.ne.2.2.1.symm, h.ne⟩
  · rw [List.map_append]
    exact upd_same
  · rcases List.mem_append.mp hk with hk | hk
    · exact stay _ _ (h.hkt k hk) (fun _ z => nomatch z)
    · obtain rfl := List.mem_singleton.mp hk
      exact stay _ _ hp (fun _ z => nomatch z)
/-- nothing is left to be done again -/
theorem HouseAt.clear {u : Addr} {H1 : Hp} (h : HouseAt CH CB H d M) (e : Ex H H1) (hn : H u = none) (hu : H1 u = some (.lst [])) :
    HouseAt CH CB (upd H1 d.h (.ins CH d.dx [("books", .ref d.bk.b), ("kept", .ref d.kp), ("undone", .ref u)])) { d with un := u } { M with undone := [] } := by
  have h1 := h.ex e
  have stay : ∀ b o, H1 b = some o → b ≠ d.h → (upd H1 d.h (.ins CH d.dx [("books", .ref d.bk.b), ("kept", .ref d.kp), ("undone", .ref u)])) b = some o := fun b o hb nb => by rw [upd_ne nb]; exact hb
  have ni : ∀ {b o}, H1 b = some o → (∀ C dx fs, o ≠ .ins C dx fs) → b ≠ d.h := fun {b o} hb no z => by rw [z, h1.hh] at hb; exact no _ _ _ (Option.some.inj hb).symm
  have go : ∀ b o, H1 b = some o → (∀ C dx fs, o ≠ .ins C dx fs) → (upd H1 d.h (.ins CH d.dx [("books", .ref d.bk.b), ("kept", .ref d.kp), ("undone", .ref u)])) b = some o := fun b o hb no => stay b o hb (ni hb no)
  have hb := h1.hb
  have ud : ∀ {b o}, H b = some o → b ≠ u := fun {b o} hb z => by rw [z, hn] at hb; cases hb
  exact ⟨upd_same, ⟨stay _ _ hb.hb h.ne.2.2.2.symm, go _ _ hb.hsh (fun _ _ _ z => nomatch z), go _ _ hb.hms (fun _ _ _ z => nomatch z), fun m hm => go _ _ (hb.hmt m hm) (fun _ _ _ z => nomatch z), hb.nd, go _ _ hb.hts (fun _ _ _ z => nomatch z), go _ _ hb.hss (fun _ _ _ z => nomatch z), go _ _ hb.htr (fun _ _ _ z => nomatch z), fun t ht => go _ _ (hb.htt t ht) (fun _ _ _ z => nomatch z), hb.ne⟩,
    go _ _ h1.hk (fun _ _ _ z => nomatch z), fun k hk => go _ _ (h1.hkt k hk) (fun _ _ _ z => nomatch z), go _ _ hu (fun _ _ _ z => nomatch z), ⟨h.ne.1, (ud h.hb.htr).symm, ud h.hk, h.ne.2.2.2⟩⟩
end

end Su
namespace Su
open TL
/-! ### the deeds on members, by the house -/
inductive MD where
  | enter (nm : Str)
  | part (nm : Str)
  | bring (nm : Str) (c : Int)
  | take (nm : Str) (c : Int)
def MD.row : MD → List V
  | .enter nm => [.str "enter", .str nm]
  | .part nm => [.str "part", .str nm]
  | .bring nm c => [.str "bring", .str nm, .int c]
  | .take nm c => [.str "take", .str nm, .int c]
def MD.nm : MD → Str | .enter nm => nm | .part nm => nm | .bring nm _ => nm | .take nm _ => nm
def MD.rest : MD → List V
  | .enter nm => [.str nm]
  | .part nm => [.str nm]
  | .bring nm c => [.str nm, .int c]
  | .take nm c => [.str nm, .int c]
def MD.word : MD → Str | .enter _ => "enter" | .part _ => "part" | .bring _ _ => "bring" | .take _ _ => "take"
theorem MD.row_eq (m : MD) : m.row = .str m.word :: m.rest := by cases m <;> rfl
def MD.ref (M : BookM) : MD → Option Str
  | .enter nm => refEnter M nm
  | .part nm => refPart M nm
  | .bring nm c => refBring M nm c
  | .take nm c => refTake M nm c
def MD.af (M : BookM) : MD → BookM → Prop
  | .enter nm => afEnter M nm
  | .part nm => afPart M nm
  | .bring nm c => afCoins M nm c
  | .take nm c => afCoins M nm (-c)
section
variable {P : Program} {w : World} {K : PySem.W.Frag} {mg : Str → Option Value} {base : Heap}
def actKv (T : Top K mg) : List (Str × V) := [("enter", .ref T.f_enter), ("part", .ref T.f_part), ("bring", .ref T.f_bring), ("take", .ref T.f_take), ("found", .ref T.f_found), ("pay", .ref T.f_pay), ("bid", .ref T.f_bid), ("lay", .ref T.f_lay), ("swap", .ref T.f_swap), ("close", .ref T.f_close)]
def MD.fn (T : Top K mg) : MD → Addr | .enter _ => T.f_enter | .part _ => T.f_part | .bring _ _ => T.f_bring | .take _ _ => T.f_take
theorem MD.act (T : Top K mg) (m : MD) : getD' (actKv T) m.word = some (.ref (m.fn T)) := by
  cases m <;> rfl
def FamM (T : Top K mg) (f : Addr) (sp : Sp) : Prop := (f = T.f_enter ∧ sp = spEnter T) ∨ (f = T.f_part ∧ sp = spPart T) ∨ (f = T.f_bring ∧ sp = spBring T) ∨ (f = T.f_take ∧ sp = spTake T)
theorem fnr_of {CX : CXT} {k k' : Nat} {f : Addr} {fd : FuncData} {ps : List Str} {sp : Sp} (F : FnOk P w K mg base CX k f fd ps sp) (b : Binds K fd ps []) (h : k ≤ k') : FnR P w K mg base CX k' f sp := by
  have r := (F.raw b .nil).mono h
  refine r.imp fun vs H Q E hs => ?_
  rw [List.append_nil]
  exact hs
theorem famM (T : Top K mg) : ∀ f sp, FamM T f sp → FnR P w K mg base (L2.CX P w) 4 f sp ∧ PySem.W.keepIn K (.ref f) = true := fun f sp h => by
  rcases h with ⟨rfl, rfl⟩ | ⟨rfl, rfl⟩ | ⟨rfl, rfl⟩ | ⟨rfl, rfl⟩
  · exact ⟨fnr_of (ok_enter T.F_enter T) T.b_enter (Nat.le_refl _), T.F_enter.kp⟩
  · exact ⟨fnr_of (ok_part T.F_part T) T.b_part (Nat.le_refl _), T.F_part.kp⟩
  · exact ⟨fnr_of (ok_bring T.F_bring T) T.b_bring (Nat.le_refl _), T.F_bring.kp⟩
  · exact ⟨fnr_of (ok_take T.F_take T) T.b_take (Nat.le_refl _), T.F_take.kp⟩
def spDone (T : Top K mg) : Sp := fun vs H Q E => ∃ (d : BookD) (M : BookM) (r : Addr) (m : MD), vs = [.ref d.b, .ref r] ∧ H r = some (.tup m.row) ∧ BookAt T.f_Books H d M ∧ M.tabs = [] ∧ m.nm.length ≤ 40000 ∧ Small M ∧ Ends2 T (m.ref M) H d (m.af M) Q E
theorem Ends2.ex {T : Top K mg} {r : Option Str} {H H1 : Hp} {d : BookD} {Af : BookM → Prop} {Q : VK} {E : XK} (h : Ends2 T r H d Af Q E) (e : Ex H H1) : Ends2 T r H1 d Af Q E := ⟨fun c hc H' e' => h.1 c hc H' (e.trans e'), fun hr H' M' f hB ha => h.2 hr H' M' ((FrT.ex e).trans f) hB ha⟩
/-- a slice of a tuple that is a new one -/
theorem eu_slTK {te : TE} {tl th : TO} {σ : L2.St} {H : Hp} {a : Addr} {xs : List V} {lo hi : Option Int} (h : Ev te σ H (.ref a)) (h1 : EvO tl σ H lo) (h2 : EvO th σ H hi) (hs : SqT K H a xs) (part : ¬ (HT.sIx xs.length 0 lo = 0 ∧ HT.sIx xs.length xs.length hi = xs.length)) : EvU (tSl (rSlT K) te tl th) σ H (cutV xs lo hi) := fun Ha e Q q =>
  h Ha e _ fun Hb eb => h1 Hb (e.trans eb) _ fun Hc ec => h2 Hc ((e.trans eb).trans ec) _ fun Hd ed => ⟨a, xs, rfl, ex_t (((e.trans eb).trans ec).trans ed) hs, part, fun p hp => q p _ (fresh_back ((eb.trans ec).trans ed) hp) (((eb.trans ec).trans ed).trans (Ex.new hp)) upd_same⟩
theorem sx_tail {v : V} {xs : List V} (h : xs ≠ []) : ¬ (HT.sIx (v :: xs).length 0 (some 1) = 0 ∧ HT.sIx (v :: xs).length (v :: xs).length none = (v :: xs).length) := fun z => by
  have h1 := z.1
  rw [show (1 : Int) = ((1 : Nat) : Int) from rfl, HT.sIx_nat, List.length_cons] at h1
  omega
theorem ok_done {f : Addr} {fd : FuncData} (F : Fun K "done" "done" s_done f fd) (T : Top K mg) (DF_ACTIONS : ModD K w.params T.f_ACTIONS (actKv T)) : FnOk P w K mg base (L2.CX P w) 5 f fd ["books", "row"] (spDone T) := by
  have nd := sc_done.nd
  have FAM_done := famM (P := P) (w := w) (base := base) T
  refine F.okX sc_done (fun vs H Q E h => ?_) (fun cdv A outer s H vs Q E hr h => ?_)
  · obtain ⟨d, M, r, m, rfl, _⟩ := h
    rfl
  · obtain ⟨d, M, r, m, rfl, hr', hB, hT, hn, hz, ends⟩ := h
    refine ⟨_, (pss_cons (ps_set (i := 2) nd rfl (.inl rfl) (pe_ix (ix_md (K := K) rfl DF_ACTIONS) (pe_glob (v := .ref T.f_ACTIONS) (by rfl) T.m_ACTIONS rfl) (pe_ix ix_tup (pv 1) pe_int (fun _ _ => rfl)) (fun _ _ => rfl)))
      (pss_cons (ps_set (i := 3) nd rfl (.inl rfl) (pe_slice sl_tup (pv 1) (po_some pe_int) po_none))
      (pss_one (ps_ret (pe_callV (i := 2) FAM_done (hr.mono (by omega)) rfl (.inl rfl) (passes_call (takes_of rfl rfl rfl rfl) (fun _ _ _ _ h => h)) (pa_cons (pv 0) (StX.pa_star (pv 3) pa_nil))))))), ?_⟩
    have h0 : atI m.row 0 = some (.str m.word) := by rw [m.row_eq]; exact atI_nat (j := 0) rfl
    refine q_asg (ev_op ev_c (ev_op (ev_var rfl) ev_c (rv_ixT (st_of hr') h0)) (rv_ixMd (m.act T))) fun H1 e1 => ?_
    have hne : m.rest ≠ [] := by cases m <;> exact List.cons_ne_nil _ _
    refine q_asgU (xs := m.rest) (fun H2 e2 Q2 q2 => ?_) fun p H2 hp e2 h2 => ?_
    · have := eu_slTK (K := K) (te := tVar 1) (tl := tPart (tC (.int 1))) (th := tNoPart) (σ := [some (.ref d.b), some (.ref r), some (.ref (m.fn T)), none]) (H := H1) (ev_var rfl) (eo_some ev_c) eo_none (st_of (e1 _ _ hr')) (by rw [m.row_eq]; exact sx_tail hne) H2 e2 Q2
      rw [m.row_eq, show (1 : Int) = ((1 : Nat) : Int) from rfl, cut_from] at this
      exact this q2
    have e12 := e1.trans e2
    have hB2 := hB.ex e12
    have en2 := ends.ex e12
    have args : EvA (tCons (tVar 0) (StX.tStar K (tVar 3) tNil)) [some (.ref d.b), some (.ref r), some (.ref (m.fn T)), some (.ref p)] H2 (.ref d.b :: (m.rest ++ [])) := ea_cons (ev_var rfl) (ea_star (ev_var rfl) (st_of h2) ea_nil)
    rw [List.append_nil] at args
    cases m with
    | enter nm => exact ⟨T.f_enter, spEnter T, rfl, .inl ⟨rfl, rfl⟩, args H2 (Ex.refl _) _ fun H3 e3 => ⟨d, M, nm, rfl, hB2.ex e3, hn, hz, en2.ex e3⟩⟩
    | part nm => exact ⟨T.f_part, spPart T, rfl, .inr (.inl ⟨rfl, rfl⟩), args H2 (Ex.refl _) _ fun H3 e3 => ⟨d, M, nm, rfl, hB2.ex e3, hT, hz, en2.ex e3⟩⟩
    | bring nm c => exact ⟨T.f_bring, spBring T, rfl, .inr (.inr (.inl ⟨rfl, rfl⟩)), args H2 (Ex.refl _) _ fun H3 e3 => ⟨d, M, nm, c, rfl, hB2.ex e3, hz, en2.ex e3⟩⟩
    | take nm c => exact ⟨T.f_take, spTake T, rfl, .inr (.inr (.inr ⟨rfl, rfl⟩)), args H2 (Ex.refl _) _ fun H3 e3 => ⟨d, M, nm, c, rfl, hB2.ex e3, hz, en2.ex e3⟩⟩
/-- a deed refused, or done and kept -/
def EndsH (T : Top K mg) (m : MD) (H : Hp) (d : HouseD) (M : HouseM) (r : V) (un : List V) (dd : HouseD → Prop) (Q : VK) (E : XK) : Prop :=
  (∀ c, m.ref M.bk = some c → ∀ H', Ex H H' → E (.ref (T.cls c)) none H') ∧
  (m.ref M.bk = none → ∀ H' d' bk p, FrT d.mut H H' → dd d' → HouseAt T.f_House T.f_Books H' d' { bk := bk, kept := M.kept ++ [⟨p, r, M.bk.trail.length⟩], undone := un } → m.af M.bk bk → Q .non H')
def HouseOk (M : HouseM) : Prop := M.bk.tabs = [] ∧ Small M.bk ∧ M.kept.length < 49000
def spKeep (T : Top K mg) : Sp := fun vs H Q E => ∃ (d : HouseD) (M : HouseM) (r : Addr) (m : MD), vs = [.ref d.h, .ref r] ∧ H r = some (.tup m.row) ∧ HouseAt T.f_House T.f_Books H d M ∧ m.nm.length ≤ 40000 ∧ HouseOk M ∧ EndsH T m H d M (.ref r) M.undone (fun d' => d' = d) Q E
theorem ok_House_keep_done {f : Addr} {fd : FuncData} (F : Fun K "keep_done" "House.keep_done" s_House_keep_done f fd) (T : Top K mg) (DF_ACTIONS : ModD K w.params T.f_ACTIONS (actKv T)) : FnOk P w K mg base (L2.CX P w) 6 f fd ["self", "row"] (spKeep T) := by
  have nd := sc_House_keep_done.nd
  have G_done : FnOk P w K mg base (L2.CX P w) 5 T.f_done T.fd_done ["books", "row"] (spDone T) := ok_done T.F_done T DF_ACTIONS
  refine F.okX sc_House_keep_done (fun vs H Q E h => ?_) (fun cdv A outer s H vs Q E hr h => ?_)
  · obtain ⟨d, M, r, m, rfl, _⟩ := h
    rfl
  · obtain ⟨d, M, r, m, rfl, hr', hH, hn, ⟨hT, hz, hl⟩, qx, q⟩ := h
    refine ⟨_, (pss_cons (ps_set (i := 2) nd rfl (.inl rfl) (pe_callB call_len_seq (by rfl) T.m_len PySem.boot_len (pa_cons (pe_fldK (K := K) rfl (pe_fldK (K := K) rfl (pv 0) rfl) rfl) pa_nil)))
      (pss_cons (ps_set (i := 3) nd rfl (.inl rfl) (pe_call G_done (hr.mono (by omega)) (by rfl) T.m_done T.F_done.kp T.b_done .nil (passes_call (takes_of rfl rfl rfl rfl) (fun _ _ _ _ h => h)) (pa_cons (pe_fldK (K := K) rfl (pv 0) rfl) (pa_cons (pv 1) pa_nil))))
      (pss_cons (ps_expr (pe_bm PySem.F.plainAttrs_list PySem.F.slot_list_append PySem.F.type_list_append mt_append (pe_fldK (K := K) rfl (pv 0) rfl) (pa_cons (pe_tup (pa_cons (pv 1) (pa_cons (pv 2) pa_nil))) pa_nil)))
      (pss_one (ps_ret (pv 3)))))), ?_⟩
    refine q_asg (ev_is (ev_len (ev_fld (ev_fld (ev_var rfl) hH.hh T.cl_House T.na_House_books rfl) hH.hb.hb T.cl_Books T.na_Books_trail rfl) (sq_of hH.hb.htr)) (by rw [List.length_map])) fun H1 e1 => ?_
    have hH1 := hH.ex e1
    refine q_callQ (ea_cons (ev_fld (ev_var rfl) hH1.hh T.cl_House T.na_House_books rfl) (ea_cons (ev_var rfl) ea_nil)) fun H2 e2 => ⟨d.bk, M.bk, r, m, rfl, e2 _ _ (e1 _ _ hr'), (hH1.ex e2).hb, hT, hn, hz, fun c hc H3 e3 => qx c hc H3 ((e1.trans e2).trans e3), fun hc H3 bk f3 hB ha => ?_⟩
    have hH2 := hH1.ex e2
    have hH3 := hH2.books f3 hB
    have fr3 := (FrT.ex (F := d.mut) (e1.trans e2)).trans (FrT.house f3)
    dsimp only
    refine q_appU (xs := M.kept.map fun k => V.ref k.a) hH3.hk (ev_fld (ev_var rfl) hH3.hh T.cl_House T.na_House_kept rfl) (eu_tup (vs := [.ref r, .int M.bk.trail.length]) (ea_cons (ev_var rfl) (ea_cons (ev_var rfl) ea_nil)) (by show 2 ≤ 100000; decide)) (by rw [List.length_map]; omega) fun p H4 hp e4 h4 => ?_
    refine s_ret (ev_var rfl) fun H5 e5 => ?_
    exact q hc H5 d bk p ((FrT.upd (fr3.trans (FrT.ex e4)) (by simp [HouseD.mut])).trans (FrT.ex e5)) rfl (((hH3.ex e4).keep h4).ex e5) ha
theorem HouseAt.nw {CH CB : Addr} {H H2 : Hp} {d : HouseD} {M : HouseM} (h : HouseAt CH CB H2 d M) (f : FrT d.mut H H2) {u : Addr} (hu : H2 u = none) : Nw H u := fun o ho => by
  by_cases ht : ∃ ps, o = .tbl ps
  · exact ht
  exfalso
  by_cases hm : u ∈ d.mut
  · simp only [HouseD.mut, BookD.mut, List.mem_cons, List.not_mem_nil, or_false] at hm
    rcases hm with rfl | rfl | rfl | rfl | rfl | rfl | rfl
    · rw [h.hh] at hu; cases hu
    · rw [h.hk] at hu; cases hu
    · rw [h.hu] at hu; cases hu
    · rw [h.hb.hms] at hu; cases hu
    · rw [h.hb.hts] at hu; cases hu
    · rw [h.hb.hss] at hu; cases hu
    · rw [h.hb.htr] at hu; cases hu
  · have := f u o ho (fun ps z => ht ⟨ps, z⟩) hm
    rw [hu] at this
    cases this
def spDeed (T : Top K mg) : Sp := fun vs H Q E => ∃ (d : HouseD) (M : HouseM) (r : Addr) (m : MD), vs = [.ref d.h, .ref r] ∧ H r = some (.tup m.row) ∧ HouseAt T.f_House T.f_Books H d M ∧ m.nm.length ≤ 40000 ∧ HouseOk M ∧ EndsH T m H d M (.ref r) [] (fun d' => ∃ u, Nw H u ∧ d' = { d with un := u }) Q E
theorem ok_House_deed {f : Addr} {fd : FuncData} (F : Fun K "deed" "House.deed" s_House_deed f fd) (T : Top K mg) (DF_ACTIONS : ModD K w.params T.f_ACTIONS (actKv T)) : FnOk P w K mg base (L2.CX P w) 7 f fd ["self", "row"] (spDeed T) := by
  have nd := sc_House_deed.nd
  have G_House_keep_done : FnOk P w K mg base (L2.CX P w) 6 T.f_House_keep_done T.fd_House_keep_done ["self", "row"] (spKeep T) := ok_House_keep_done T.F_House_keep_done T DF_ACTIONS
  refine F.okX sc_House_deed (fun vs H Q E h => ?_) (fun cdv A outer s H vs Q E hr h => ?_)
  · obtain ⟨d, M, r, m, rfl, _⟩ := h
    rfl
  · obtain ⟨d, M, r, m, rfl, hr', hH, hn, hok, qx, q⟩ := h
    refine ⟨_, (pss_cons (ps_set (i := 2) nd rfl (.inl rfl) (pe_meth (pv 0) T.cl_House T.mt_House_keep_done G_House_keep_done (hr.mono (by omega)) T.b_House_keep_done .nil (passes_call (takes_of rfl rfl rfl rfl) (fun _ _ _ _ h => h)) (pa_cons (pv 1) pa_nil)))
      (pss_cons (ps_fldK (K := K) rfl (pv 0) (pe_lst pa_nil) rfl)
      (pss_one (ps_ret (pv 2))))), ?_⟩
    refine q_asgM (ev_var rfl) hH.hh rfl (ea_cons (ev_var rfl) ea_nil) fun H1 e1 => ⟨d, M, r, m, rfl, e1 _ _ hr', hH.ex e1, hn, hok, fun c hc H2 e2 => qx c hc H2 (e1.trans e2), fun hc H2 d2 bk p f2 hd2 hH2 ha => ?_⟩
    subst hd2
    refine q_fldL (el_lst ea_nil (by decide)) (ev_var rfl) hH2.hh T.cl_House T.na_House_undone (by show 3 < 1000; decide) fun u H3 hu e3 h3 => ?_
    refine s_ret (ev_var rfl) fun H4 e4 => ?_
    exact q hc H4 _ bk p (((FrT.ex e1).trans f2).trans (((FrT.ex e3).upd (by simp [HouseD.mut])).trans (FrT.ex e4))) ⟨u, Nw.back (exN_of e1) (hH2.nw f2 hu), rfl⟩ ((hH2.clear e3 hu h3).ex e4) ha
end

end Su
namespace Su
open TL
/-! ### new books, a new house; the methods of the deeds on members -/
theorem ex_shelves {σ : L2.St} {H : Hp} {Q : VK} (k : ∀ sh ms ts ss H2, H sh = none → H ms = none → H ts = none → H ss = none → (ms ≠ ts ∧ ms ≠ ss ∧ ts ≠ ss ∧ sh ≠ ms ∧ sh ≠ ts ∧ sh ≠ ss) → Ex H H2 →
    H2 sh = some (.dK [(.inr membersS, .ref ms), (.inr tablesS, .ref ts), (.inr sumsS, .ref ss)]) → H2 ms = some (.dK []) → H2 ts = some (.dK []) → H2 ss = some (.dK [(.inr broughtS, .int 0)]) → Q (.ref sh) H2) :
    tDisp [(tC (.str membersS), tDNewK), (tC (.str tablesS), tDNewK), (tC (.str sumsS), tDisp [(tC (.str broughtS), tC (.int 0))])] σ H Q := by
  intro sh hsh ms hms ts hts ss hss
  have n1 : ms ≠ sh := fun z => by rw [z, upd_same] at hms; cases hms
  have n2 : ts ≠ ms := fun z => by rw [z, upd_same] at hts; cases hts
  rw [upd_ne n1] at hms
  have n3 : ts ≠ sh := fun z => by rw [z, upd_ne n1.symm, upd_same] at hts; cases hts
  rw [upd_ne n2, upd_ne n3] at hts
  have n4 : ss ≠ ts := fun z => by rw [z, upd_same] at hss; cases hss
  rw [upd_ne n4] at hss
  have n5 : ss ≠ ms := fun z => by rw [z, upd_same] at hss; cases hss
  rw [upd_ne n5] at hss
  have n6 : ss ≠ sh := fun z => by rw [z, upd_same] at hss; cases hss
  rw [upd_ne n6] at hss
  refine ⟨upd_same, [(.inr broughtS, .int 0)], rfl, by decide, ?_⟩
  have e2 : mergeK ([] : List (Key × V)) [(.inr broughtS, .int 0)] = [(.inr broughtS, .int 0)] := rfl
  rw [e2]
  refine ⟨?_, [(.inr membersS, .ref ms), (.inr tablesS, .ref ts), (.inr sumsS, .ref ss)], rfl, by show 3 ≤ 15; decide, ?_⟩
  · rw [upd_ne n6.symm, upd_ne n6.symm, upd_ne n3.symm, upd_ne n1.symm]
    exact upd_same
  · have e3 : mergeK ([] : List (Key × V)) [(.inr membersS, .ref ms), (.inr tablesS, .ref ts), (.inr sumsS, .ref ss)] = [(.inr membersS, .ref ms), (.inr tablesS, .ref ts), (.inr sumsS, .ref ss)] := by
      have a1 : ¬ (Sum.inr membersS : Key) = .inr tablesS := fun z => absurd (Sum.inr.inj z) (by decide +kernel)
      have a2 : ¬ (Sum.inr membersS : Key) = .inr sumsS := fun z => absurd (Sum.inr.inj z) (by decide +kernel)
      have a3 : ¬ (Sum.inr tablesS : Key) = .inr sumsS := fun z => absurd (Sum.inr.inj z) (by decide +kernel)
      unfold mergeK
      simp [putK, a1, a2, a3]
    rw [e3]
    refine k sh ms ts ss _ hsh hms hts hss ⟨n2.symm, n5.symm, n4.symm, n1.symm, n3.symm, n6.symm⟩ ?_ upd_same ?_ ?_ ?_
    · exact Ex.mut (Ex.mut (Ex.mut (Ex.mut (Ex.mut (Ex.new hsh) hms) hts) hss) hss) hsh
    · rw [upd_ne n1, upd_ne n5.symm, upd_ne n5.symm, upd_ne n2.symm, upd_same]
    · rw [upd_ne n3, upd_ne n4.symm, upd_ne n4.symm, upd_same]
    · rw [upd_ne n6, upd_same]
theorem q_sfldRaw {K : PySem.W.Frag} {ta tv : TE} {f : Str} {σ : L2.St} {H : Hp} {D : Ends} {tz : TS} (k : tv σ H fun y H1 => ta σ H1 fun x H2 => ∃ a C dx fs, x = .ref a ∧ H2 a = some (.ins C dx fs) ∧ Cls K C ∧ NoAttr K C f ∧ fs.length < 1000 ∧ tz D σ (upd H2 a (.ins C dx (putF f y fs)))) : tSeq (sFld K ta tv f) tz D σ H := k
section
variable {P : Program} {w : World} {K : PySem.W.Frag} {mg : Str → Option Value} {base : Heap}
def book0 : BookM := ⟨[], [], 0, []⟩
def spBooks0 (C : Addr) : Sp := fun vs H Q _ => ∃ b dx : Addr, vs = [.ref b] ∧ H b = some (.ins C dx []) ∧ ∀ (H' : Hp) (d : BookD), d.b = b → ExF [b] H H' → (∀ x ∈ [d.sh, d.ms, d.ts, d.ss, d.tr], H x = none) → BookAt C H' d book0 → Q .non H'
theorem ok_Books_init (T : Top K mg) : FnOk P w K mg base CX0 1 T.f_Books___init__ T.fd_Books___init__ ["self"] (spBooks0 T.f_Books) := by
  have nd := sc_Books___init__.nd
  refine T.F_Books___init__.ok sc_Books___init__ (fun vs H Q E h => ?_) (fun cdv A outer s H vs Q E hr h => ?_)
  · obtain ⟨b, dx, rfl, _⟩ := h
    rfl
  · obtain ⟨b, dx, rfl, hb, q⟩ := h
    refine ⟨_, (pss_cons (ps_fldK (K := K) rfl (pv 0) (pe_disp (pps_cons (pe_glob (v := .str "members") (by rfl) T.m_MEMBERS ⟨_, rfl⟩) pe_dnewK (pps_cons (pe_glob (v := .str "tables") (by rfl) T.m_TABLES ⟨_, rfl⟩) pe_dnewK (pps_cons (pe_glob (v := .str "sums") (by rfl) T.m_SUMS ⟨_, rfl⟩) (pe_disp (pps_cons (pe_glob (v := .str "brought") (by rfl) T.m_BROUGHT ⟨_, rfl⟩) pe_int pps_nil) rfl rfl (by simp) (by decide)) pps_nil))) rfl rfl (by simp) (by decide)) rfl)
      (pss_one (ps_fldK (K := K) rfl (pv 0) (pe_lst pa_nil) rfl))), ?_⟩
    refine q_sfldRaw (ex_shelves fun sh ms ts ss H1 n1 n2 n3 n4 ne e1 g1 g2 g3 g4 => ?_)
    have hb1 := e1 _ _ hb
    refine ⟨.ref b, rfl, b, T.f_Books, dx, [], rfl, hb1, T.cl_Books, T.na_Books_shelves, by show 0 < 1000; decide, ?_⟩
    have nb : ∀ {x o}, H1 x = some o → (∀ C dx fs, o ≠ .ins C dx fs) → x ≠ b := fun {x o} hx no z => by rw [z, hb1] at hx; exact no _ _ _ (Option.some.inj hx).symm
    have hb2 : (upd H1 b (.ins T.f_Books dx (putF "shelves" (.ref sh) []))) b = some (.ins T.f_Books dx [("shelves", .ref sh)]) := upd_same
    refine s_fldL (el_lst ea_nil (by decide)) (ev_var rfl) hb2 T.cl_Books T.na_Books_trail (by show 1 < 1000; decide) fun tr H3 hp e3 h3 => ?_
    have ntb : tr ≠ b := fun z => by rw [z, hb2] at hp; cases hp
    have go : ∀ {x o}, H1 x = some o → (∀ C dx fs, o ≠ .ins C dx fs) → (upd H3 b (.ins T.f_Books dx (putF "trail" (.ref tr) [("shelves", .ref sh)]))) x = some o := fun {x o} hx no => by
      rw [upd_ne (nb hx no)]
      exact e3 _ _ (by rw [upd_ne (nb hx no)]; exact hx)
    refine q _ ⟨b, dx, sh, ms, ts, ss, tr⟩ rfl ?_ ?_ ⟨upd_same, go g1 (fun _ _ _ z => nomatch z), go g2 (fun _ _ _ z => nomatch z), (fun m hm => nomatch hm), List.nodup_nil, go g3 (fun _ _ _ z => nomatch z), go g4 (fun _ _ _ z => nomatch z), by rw [upd_ne ntb]; exact h3, (fun t ht => nomatch ht), ne⟩
    · exact ((((ExF.ex e1).upd (List.mem_singleton.mpr rfl)).trans (ExF.ex e3)).upd (List.mem_singleton.mpr rfl))
    · have ht : H tr = none := by
        have h1 : H1 tr = none := by rw [upd_ne ntb] at hp; exact hp
        exact fresh_back e1 h1
      intro x hx
      simp only [List.mem_cons, List.not_mem_nil, or_false] at hx
      rcases hx with rfl | rfl | rfl | rfl | rfl
      · exact n1
      · exact n2
      · exact n3
      · exact n4
      · exact ht
def spHouse0 (CH CB : Addr) : Sp := fun vs H Q _ => ∃ h dx : Addr, vs = [.ref h] ∧ H h = some (.ins CH dx []) ∧ ∀ (H' : Hp) (d : HouseD), d.h = h → ExF [h] H H' → (∀ x ∈ d.kp :: d.un :: d.bk.mut, H x = none) → HouseAt CH CB H' d ⟨book0, [], []⟩ → Q .non H'
theorem ok_House_init (T : Top K mg) : FnOk P w K mg base CX0 3 T.f_House___init__ T.fd_House___init__ ["self"] (spHouse0 T.f_House T.f_Books) := by
  have nd := sc_House___init__.nd
  have G_Books___init__ : FnOk P w K mg base CX0 1 T.f_Books___init__ T.fd_Books___init__ ["self"] (spBooks0 T.f_Books) := ok_Books_init T
  refine T.F_House___init__.ok sc_House___init__ (fun vs H Q E h => ?_) (fun cdv A outer s H vs Q E hr h => ?_)
  · obtain ⟨b, dx, rfl, _⟩ := h
    rfl
  · obtain ⟨h0, dx, rfl, hh, q⟩ := h
    refine ⟨_, (pss_cons (ps_fldK (K := K) rfl (pv 0) (pe_make0 T.mk_Books G_Books___init__ (hr.mono (by omega)) (by rfl) T.m_Books T.b_Books___init__ .nil pass0 ) rfl)
      (pss_cons (ps_fldK (K := K) rfl (pv 0) (pe_lst pa_nil) rfl)
      (pss_one (ps_fldK (K := K) rfl (pv 0) (pe_lst pa_nil) rfl)))), ?_⟩
    refine q_sfldRaw (te_make ea_nil fun x y H1 e1 hx hy hne => ⟨x, y, rfl, upd_same, fun H2 d hd ex hn hB => ⟨rfl, ?_⟩⟩)
    have hh1 := e1 _ _ hh
    have nx : h0 ≠ x := fun z => by rw [← z, hh1] at hx; cases hx
    have ny : h0 ≠ y := fun z => by rw [← z, hh1] at hy; cases hy
    have old : ∀ {a o}, H a = some o → H2 a = some o := fun {a o} ha => by
      have a1 := e1 _ _ ha
      have ax : a ≠ x := fun z => by rw [← z, a1] at hx; cases hx
      have ay : a ≠ y := fun z => by rw [← z, a1] at hy; cases hy
      exact ex a o (by rw [upd_ne ax, upd_ne ay]; exact a1) (fun z => ax (List.mem_singleton.mp z))
    have hh2 := old hh
    have frs : ∀ z ∈ [d.sh, d.ms, d.ts, d.ss, d.tr], H z = none := fun z hz => by
      have h2 := hn z hz
      cases hq : H z with
      | none => rfl
      | some o =>
        have a1 := e1 _ _ hq
        have ax : z ≠ x := fun w => by rw [← w, a1] at hx; cases hx
        have ay : z ≠ y := fun w => by rw [← w, a1] at hy; cases hy
        rw [upd_ne ax, upd_ne ay, a1] at h2
        cases h2
    refine ⟨.ref h0, rfl, h0, T.f_House, dx, [], rfl, hh2, T.cl_House, T.na_House_books, by show 0 < 1000; decide, ?_⟩
    have hh3 : (upd H2 h0 (.ins T.f_House dx (putF "books" (.ref x) []))) h0 = some (.ins T.f_House dx [("books", .ref x)]) := upd_same
    refine q_fldL (el_lst ea_nil (by decide)) (ev_var rfl) hh3 T.cl_House T.na_House_kept (by show 1 < 1000; decide) fun kp H4 hkp e4 h4 => ?_
    have nk : kp ≠ h0 := fun z => by rw [z, hh3] at hkp; cases hkp
    have hh5 : (upd H4 h0 (.ins T.f_House dx (putF "kept" (.ref kp) [("books", .ref x)]))) h0 = some (.ins T.f_House dx [("books", .ref x), ("kept", .ref kp)]) := upd_same
    refine s_fldL (el_lst ea_nil (by decide)) (ev_var rfl) hh5 T.cl_House T.na_House_undone (by show 2 < 1000; decide) fun un H6 hun e6 h6 => ?_
    have nu : un ≠ h0 := fun z => by rw [z, hh5] at hun; cases hun
    have nku : kp ≠ un := fun z => by rw [← z, upd_ne nk, h4] at hun; cases hun
    have kp2 : H2 kp = none := by rw [upd_ne nk] at hkp; exact hkp
    have un4 : H4 un = none := by rw [upd_ne nu] at hun; exact hun
    have go : ∀ {a o}, H2 a = some o → a ≠ h0 → (upd H6 h0 (.ins T.f_House dx (putF "undone" (.ref un) [("books", .ref x), ("kept", .ref kp)]))) a = some o := fun {a o} ha na => by
      rw [upd_ne na]
      refine e6 _ _ ?_
      rw [upd_ne na]
      refine e4 _ _ ?_
      rw [upd_ne na]
      exact ha
    have no : ∀ {a o}, H2 a = some o → (∀ C dx fs, o ≠ .ins C dx fs) → a ≠ h0 := fun {a o} ha hno z => by rw [z, hh2] at ha; exact hno _ _ _ (Option.some.inj ha).symm
    have bx : d.b = x := hd
    have hBb := hB.hb
    rw [bx] at hBb
    refine q _ ⟨h0, dx, d, kp, un⟩ rfl ?_ ?_ ⟨by rw [← bx]; exact upd_same, ⟨by rw [bx]; exact go hBb (by rw [← bx]; exact fun z => nx (z.symm.trans bx)), go hB.hsh (no hB.hsh (fun _ _ _ z => nomatch z)), go hB.hms (no hB.hms (fun _ _ _ z => nomatch z)), (fun m hm => nomatch hm), List.nodup_nil, go hB.hts (no hB.hts (fun _ _ _ z => nomatch z)), go hB.hss (no hB.hss (fun _ _ _ z => nomatch z)), go hB.htr (no hB.htr (fun _ _ _ z => nomatch z)), (fun t ht => nomatch ht), hB.ne⟩, ?_, (fun k hk => nomatch hk), by rw [upd_ne nu]; exact h6, ?_⟩
    · refine fun a o ha hna => ?_
      exact go (old ha) (fun z => hna (List.mem_singleton.mpr z))
    · intro z hz
      rcases List.mem_cons.mp hz with rfl | hz
      · cases hq : H z with
        | none => rfl
        | some o => rw [old hq] at kp2; cases kp2
      rcases List.mem_cons.mp hz with rfl | hz
      · cases hq : H z with
        | none => rfl
        | some o =>
          have := old hq
          have w := e4 z o (by rw [upd_ne nu]; exact this)
          rw [un4] at w; cases w
      · refine frs z ?_
        simp only [BookD.mut, List.mem_cons, List.not_mem_nil, or_false] at hz ⊢
        rcases hz with h | h | h | h <;> simp [h]
    · show (upd H6 h0 _) kp = _
      rw [upd_ne nk]
      refine e6 _ _ ?_
      rw [upd_ne nk]
      exact h4
    · refine ⟨fun z => ?_, fun z => ?_, nku, fun z => nx (z.trans bx)⟩
      · have := hB.htr; rw [← z, kp2] at this; cases this
      · have := e4 _ _ (show (upd H2 h0 (.ins T.f_House dx (putF "books" (.ref x) []))) d.tr = some _ by rw [upd_ne (no hB.htr (fun _ _ _ z => nomatch z))]; exact hB.htr)
        rw [← z, un4] at this; cases this
theorem s_dropM1U {C a dx : Addr} {fs : List (Str × V)} {m : Str} {sp : Sp} {E : XK} {te t1 : TE} {σ : L2.St} {H : Hp} {D : Ends} {xs : List V} (h : Ev te σ H (.ref a)) (ha : H a = some (.ins C dx fs)) (hm : fs.lookup m = none) (h1 : EvU t1 σ H xs)
    (k : ∀ p H1, H p = none → Ex H H1 → H1 p = some (.tup xs) → sp [.ref a, .ref p] H1 (fun _ H2 => D.nx σ H2) E) : tDrop (tMeth C m sp [] E te (tCons t1 tNil)) D σ H :=
  h H (Ex.refl _) _ fun H1 e1 => ⟨a, dx, fs, rfl, e1 _ _ ha, hm, h1 H1 e1 _ fun p H2 hp e2 h2 => k p H2 (fresh_back e1 hp) (e1.trans e2) h2⟩
/-- a method of the house that does one deed on members -/
def spOne (T : Top K mg) (m : MD) (vs : List V) : Sp := fun ws H Q E => ∃ (d : HouseD) (M : HouseM), ws = .ref d.h :: vs ∧ HouseAt T.f_House T.f_Books H d M ∧ m.nm.length ≤ 40000 ∧ HouseOk M ∧
  (∀ c, m.ref M.bk = some c → ∀ H', Ex H H' → E (.ref (T.cls c)) none H') ∧
  (m.ref M.bk = none → ∀ H' u bk r p, FrT d.mut H H' → Nw H u → HouseAt T.f_House T.f_Books H' { d with un := u } { bk := bk, kept := M.kept ++ [⟨p, .ref r, M.bk.trail.length⟩], undone := [] } → m.af M.bk bk → H' r = some (.tup m.row) → Q .non H')
def spMeth (T : Top K mg) (row : List V → MD → Prop) : Sp := fun ws H Q E => ∃ m vs, row vs m ∧ spOne T m vs ws H Q E
theorem row_len {T : Top K mg} {m : MD} {vs ws : List V} {H : Hp} {Q : VK} {E : XK} (h : spOne T m vs ws H Q E) : ws.length = vs.length + 1 := by
  obtain ⟨d, M, rfl, _⟩ := h
  rfl
theorem one_run {T : Top K mg} {m : MD} {H H1 : Hp} {d : HouseD} {M : HouseM} {r : Addr} {Q : VK} {E : XK} (hH : HouseAt T.f_House T.f_Books H d M) (e1 : Ex H H1) (hr : H1 r = some (.tup m.row)) (hn : m.nm.length ≤ 40000) (hok : HouseOk M)
    (qx : ∀ c, m.ref M.bk = some c → ∀ H', Ex H H' → E (.ref (T.cls c)) none H') (q : m.ref M.bk = none → ∀ H' u bk r p, FrT d.mut H H' → Nw H u → HouseAt T.f_House T.f_Books H' { d with un := u } { bk := bk, kept := M.kept ++ [⟨p, .ref r, M.bk.trail.length⟩], undone := [] } → m.af M.bk bk → H' r = some (.tup m.row) → Q .non H') :
    spDeed T [.ref d.h, .ref r] H1 (fun _ H2 => Q .non H2) E := by
  have hH1 := hH.ex e1
  refine ⟨d, M, r, m, rfl, hr, hH1, hn, hok, fun c hc H2 e2 => qx c hc H2 (e1.trans e2), fun hc H2 d2 bk p f2 hd2 hH2 ha => ?_⟩
  obtain ⟨u, hu, rfl⟩ := hd2
  have hrm : r ∉ d.mut := fun z => by
    simp only [HouseD.mut, BookD.mut, List.mem_cons, List.not_mem_nil, or_false] at z
    rcases z with rfl | rfl | rfl | rfl | rfl | rfl | rfl
    · rw [hH1.hh] at hr; cases hr
    · rw [hH1.hk] at hr; cases hr
    · rw [hH1.hu] at hr; cases hr
    · rw [hH1.hb.hms] at hr; cases hr
    · rw [hH1.hb.hts] at hr; cases hr
    · rw [hH1.hb.hss] at hr; cases hr
    · rw [hH1.hb.htr] at hr; cases hr
  exact q hc H2 u bk r p ((FrT.ex e1).trans f2) (Nw.back (exN_of e1) hu) hH2 ha (f2 r _ hr (fun _ z => nomatch z) hrm)
theorem ok_House_enter {f : Addr} {fd : FuncData} (F : Fun K "enter" "House.enter" s_House_enter f fd) (T : Top K mg) (DF_ACTIONS : ModD K w.params T.f_ACTIONS (actKv T)) : FnOk P w K mg base (L2.CX P w) 8 f fd ["self", "name"] (spMeth T fun vs m => ∃ nm, vs = [.str nm] ∧ m = .enter nm) := by
  have nd := sc_House_enter.nd
  have G_House_deed : FnOk P w K mg base (L2.CX P w) 7 T.f_House_deed T.fd_House_deed ["self", "row"] (spDeed T) := ok_House_deed T.F_House_deed T DF_ACTIONS
  refine F.okX sc_House_enter (fun vs H Q E h => ?_) (fun cdv A outer s H vs Q E hr h => ?_)
  · obtain ⟨m, vs, ⟨nm, rfl, rfl⟩, h⟩ := h
    exact row_len h
  · obtain ⟨m, vs, ⟨nm, rfl, rfl⟩, d, M, rfl, hH, hn, hok, qx, q⟩ := h
    refine ⟨_, (pss_one (ps_expr (pe_meth (pv 0) T.cl_House T.mt_House_deed G_House_deed (hr.mono (by omega)) T.b_House_deed .nil (passes_call (takes_of rfl rfl rfl rfl) (fun _ _ _ _ h => h)) (pa_cons (pe_tup (pa_cons pe_str (pa_cons (pv 1) pa_nil))) pa_nil)))), ?_⟩
    exact s_dropM1U (ev_var rfl) hH.hh rfl (eu_tup (ea_cons ev_c (ea_cons (ev_var rfl) ea_nil)) (by show 2 ≤ 100000; decide)) fun r H1 _ e1 h1 => one_run (m := .enter nm) hH e1 h1 hn hok qx q
theorem ok_House_part {f : Addr} {fd : FuncData} (F : Fun K "part" "House.part" s_House_part f fd) (T : Top K mg) (DF_ACTIONS : ModD K w.params T.f_ACTIONS (actKv T)) : FnOk P w K mg base (L2.CX P w) 8 f fd ["self", "name"] (spMeth T fun vs m => ∃ nm, vs = [.str nm] ∧ m = .part nm) := by
  have nd := sc_House_part.nd
  have G_House_deed : FnOk P w K mg base (L2.CX P w) 7 T.f_House_deed T.fd_House_deed ["self", "row"] (spDeed T) := ok_House_deed T.F_House_deed T DF_ACTIONS
  refine F.okX sc_House_part (fun vs H Q E h => ?_) (fun cdv A outer s H vs Q E hr h => ?_)
  · obtain ⟨m, vs, ⟨nm, rfl, rfl⟩, h⟩ := h
    exact row_len h
  · obtain ⟨m, vs, ⟨nm, rfl, rfl⟩, d, M, rfl, hH, hn, hok, qx, q⟩ := h
    refine ⟨_, (pss_one (ps_expr (pe_meth (pv 0) T.cl_House T.mt_House_deed G_House_deed (hr.mono (by omega)) T.b_House_deed .nil (passes_call (takes_of rfl rfl rfl rfl) (fun _ _ _ _ h => h)) (pa_cons (pe_tup (pa_cons pe_str (pa_cons (pv 1) pa_nil))) pa_nil)))), ?_⟩
    exact s_dropM1U (ev_var rfl) hH.hh rfl (eu_tup (ea_cons ev_c (ea_cons (ev_var rfl) ea_nil)) (by show 2 ≤ 100000; decide)) fun r H1 _ e1 h1 => one_run (m := .part nm) hH e1 h1 hn hok qx q
theorem ok_House_bring {f : Addr} {fd : FuncData} (F : Fun K "bring" "House.bring" s_House_bring f fd) (T : Top K mg) (DF_ACTIONS : ModD K w.params T.f_ACTIONS (actKv T)) : FnOk P w K mg base (L2.CX P w) 8 f fd ["self", "name", "coins"] (spMeth T fun vs m => ∃ nm c, vs = [.str nm, .int c] ∧ m = .bring nm c) := by
  have nd := sc_House_bring.nd
  have G_House_deed : FnOk P w K mg base (L2.CX P w) 7 T.f_House_deed T.fd_House_deed ["self", "row"] (spDeed T) := ok_House_deed T.F_House_deed T DF_ACTIONS
  refine F.okX sc_House_bring (fun vs H Q E h => ?_) (fun cdv A outer s H vs Q E hr h => ?_)
  · obtain ⟨m, vs, ⟨nm, c, rfl, rfl⟩, h⟩ := h
    exact row_len h
  · obtain ⟨m, vs, ⟨nm, c, rfl, rfl⟩, d, M, rfl, hH, hn, hok, qx, q⟩ := h
    refine ⟨_, (pss_one (ps_expr (pe_meth (pv 0) T.cl_House T.mt_House_deed G_House_deed (hr.mono (by omega)) T.b_House_deed .nil (passes_call (takes_of rfl rfl rfl rfl) (fun _ _ _ _ h => h)) (pa_cons (pe_tup (pa_cons pe_str (pa_cons (pv 1) (pa_cons (pv 2) pa_nil)))) pa_nil)))), ?_⟩
    exact s_dropM1U (ev_var rfl) hH.hh rfl (eu_tup (ea_cons ev_c (ea_cons (ev_var rfl) (ea_cons (ev_var rfl) ea_nil))) (by show 3 ≤ 100000; decide)) fun r H1 _ e1 h1 => one_run (m := .bring nm c) hH e1 h1 hn hok qx q
theorem ok_House_take {f : Addr} {fd : FuncData} (F : Fun K "take" "House.take" s_House_take f fd) (T : Top K mg) (DF_ACTIONS : ModD K w.params T.f_ACTIONS (actKv T)) : FnOk P w K mg base (L2.CX P w) 8 f fd ["self", "name", "coins"] (spMeth T fun vs m => ∃ nm c, vs = [.str nm, .int c] ∧ m = .take nm c) := by
  have nd := sc_House_take.nd
  have G_House_deed : FnOk P w K mg base (L2.CX P w) 7 T.f_House_deed T.fd_House_deed ["self", "row"] (spDeed T) := ok_House_deed T.F_House_deed T DF_ACTIONS
  refine F.okX sc_House_take (fun vs H Q E h => ?_) (fun cdv A outer s H vs Q E hr h => ?_)
  · obtain ⟨m, vs, ⟨nm, c, rfl, rfl⟩, h⟩ := h
    exact row_len h
  · obtain ⟨m, vs, ⟨nm, c, rfl, rfl⟩, d, M, rfl, hH, hn, hok, qx, q⟩ := h
    refine ⟨_, (pss_one (ps_expr (pe_meth (pv 0) T.cl_House T.mt_House_deed G_House_deed (hr.mono (by omega)) T.b_House_deed .nil (passes_call (takes_of rfl rfl rfl rfl) (fun _ _ _ _ h => h)) (pa_cons (pe_tup (pa_cons pe_str (pa_cons (pv 1) (pa_cons (pv 2) pa_nil)))) pa_nil)))), ?_⟩
    exact s_dropM1U (ev_var rfl) hH.hh rfl (eu_tup (ea_cons ev_c (ea_cons (ev_var rfl) (ea_cons (ev_var rfl) ea_nil))) (by show 3 ≤ 100000; decide)) fun r H1 _ e1 h1 => one_run (m := .take nm c) hH e1 h1 hn hok qx q
end

end Su
namespace Su
open TL
/-! ### what the house tells of its members -/
def BookM.inc (M : BookM) : Prop := (M.mems.map Mem.num).Pairwise (· < ·)
def BookM.names (M : BookM) : List Str := M.mems.map Mem.nm
def BookM.purses (M : BookM) : List Int := M.mems.map Mem.coins
theorem sortedBy_inc : ∀ {ps : List (Str × Int)}, (ps.map (·.2)).Pairwise (· < ·) → sortedBy (ps.map (·.1)) (ps.map (·.2)) = ps.map (·.1) := fun {ps} h => by
  unfold sortedBy
  have hz : (ps.map (·.1)).zip (ps.map (·.2)) = ps := by
    rw [List.zip_map']
    exact List.map_id ps
  rw [hz, List.mergeSort_of_pairwise]
  rw [List.pairwise_map] at h
  refine h.imp fun {a b} hab => ?_
  show (!PySem.W.dataLt (.int b.2) (.int a.2)) = true
  rw [PySem.W.dataLt_int, decide_eq_false (by omega)]
  rfl
theorem mem?_at {M : BookM} (nd : (M.mems.map Mem.nm).Nodup) {m : Mem} (hm : m ∈ M.mems) : M.mem? m.nm = some m := by
  unfold BookM.mem?
  generalize M.mems = l at nd hm
  induction l with
  | nil => cases hm
  | cons x xs ih =>
    rw [List.map_cons, List.nodup_cons] at nd
    rcases List.mem_cons.mp hm with rfl | hm'
    · rw [List.find?_cons_of_pos (by simp)]
    · have ne : x.nm ≠ m.nm := fun z => nd.1 (z ▸ List.mem_map.mpr ⟨m, hm', rfl⟩)
      rw [List.find?_cons_of_neg (by simpa using ne)]
      exact ih nd.2 hm'
section
variable {K : PySem.W.Frag} {σ : L2.St} {H : Hp}
theorem lc_at {tl te : TE} {g : TG} {t : TT} {vs : List Nat} {Q : VK} (k : tl σ H fun x H1 => tLc (iList K (tC x)) g t te vs σ H1 Q) : tLc (iList K tl) g t te vs σ H Q := k
theorem cb_one {r : List V → Hp → VK → Prop} {te : TE} {Q : VK} (k : te σ H fun v H1 => r [v] H1 Q) : tCB r (tCons te tNil) σ H Q := k
theorem el_run {te : TE} {xs : List V} {Q : VK} (h : EvL te σ H xs) (k : ∀ p H1, H p = none → Ex H H1 → H1 p = some (.lst xs) → Q (.ref p) H1) : te σ H Q := h H (Ex.refl H) _ k
theorem s_retQ {te : TE} {D : Ends} (k : te σ H fun v H1 => D.rt v H1) : tRet te D σ H := k
theorem ta_at {te : TE} {t : TA} {Q : List V → Hp → Prop} (k : te σ H fun v H1 => t σ H1 fun vs H2 => Q (v :: vs) H2) : tCons te t σ H Q := k
theorem ta_at' {te : TE} {t : TA} {Q : List V → Hp → Prop} {v : V} (h : Ev te σ H v) (k : ∀ H1, Ex H H1 → t σ H1 fun vs H2 => Q (v :: vs) H2) : tCons te t σ H Q := h H (Ex.refl H) _ k
theorem lst_at {ta : TA} {Q : VK} (k : ta σ H fun xs H1 => xs.length ≤ sizeLine ∧ ∀ p, H1 p = none → Q (.ref p) (upd H1 p (.lst xs))) : tLst ta σ H Q := k
end
section
variable {P : Program} {w : World} {K : PySem.W.Frag} {mg : Str → Option Value} {base : Heap}
def spMemNames (TT : List (Addr × Str)) (C : Addr) : Sp := fun vs H Q _ => ∃ (d : BookD) (M : BookM), vs = [.ref d.b] ∧ BookAt C H d M ∧ M.mems.length ≤ 1000 ∧ M.inc ∧ LamX.Tabs TT H ∧ ∀ H' p, LamX.ExtN H H' → LamX.Tabs TT H' → H' p = some (.lst (M.names.map V.str)) → Q (.ref p) H'
theorem ok_Books_member_names {f : Addr} {fd : FuncData} (T : Top K mg) (F : FunC K "member_names" "Books.member_names" s_Books_member_names f fd T.c_Books_member_names) (TB_Books_member_names : LamX.TabB base mg T.c_Books_member_names T.P_Books_member_names) : FnOk P w K mg base CX0 5 f fd ["self"] (spMemNames T.tabs T.f_Books) := by
  have nd := sc_Books_member_names.nd
  refine F.ok sc_Books_member_names (fun vs H Q E h => ?_) (fun A outer s H vs Q E hr h => ?_)
  · obtain ⟨d, M, rfl, _⟩ := h
    rfl
  · obtain ⟨d, M, rfl, hB, hl, hi, hT, q⟩ := h
    refine ⟨_, (pss_cons (ps_set (i := 1) nd rfl (.inr rfl) (pe_dget (hu_of hr) (pe_fldK (K := K) rfl (pv 0) rfl) (pe_glob (v := .str "members") (by rfl) T.m_MEMBERS ⟨_, rfl⟩) (fun _ _ => rfl)))
      (pss_one (ps_ret (pe_sortK (T := T.tabs) (c := T.c_Books_member_names) (P := T.P_Books_member_names) (k := 0) (kx := "name") (N := ["name", "people"]) (fr := ["people"]) (js := [1]) TB_Books_member_names rfl rfl T.hm_Books_member_names T.hu_Books_member_names (by rfl) T.m_sorted (hr.mono (by decide)) (pa_cons (pv 1) pa_nil) (NdefX.nscope_by (by decide +kernel)) (by rfl) (by rfl) (fun f c' s H hr2 => (pe_ix (ix_tupK (K := K) rfl) (pe_dget (hu_of hr2) (pv 1) (pv 0) (fun _ _ => rfl)) pe_int (fun _ _ => rfl))))))), ?_⟩
    refine q_asg (hB.mems_at T rfl (ev_var rfl) ev_c) fun H1 e1 => ?_
    have hB1 := hB.ex e1
    refine ⟨.ref d.ms, rfl, d.ms, M.mems.map Mem.kv, M.names, M.mems.map Mem.num, rfl, hB1.hms, ?_, ?_, ?_, hT.ext e1, fun H2 eN T2 => ⟨fun i nm n hn hk => ?_, fun H3 p e3 hp => ?_⟩⟩
    · unfold BookM.names
      rw [List.map_map, List.map_map]
      rfl
    · unfold BookM.names
      rw [List.length_map, List.length_map]
    · unfold BookM.names
      rw [List.length_map]
      exact hl
    · have hB2 := hB1.exN eN
      unfold BookM.names at hn
      rw [List.getElem?_map] at hn hk
      obtain ⟨m, hm, rfl⟩ := Option.map_eq_some_iff.mp hn
      rw [hm] at hk
      cases hk
      have hmm := List.mem_of_getElem? hm
      exact ev_op (ev_dget (k := .inr m.nm) (v := .ref m.a) (ev_var rfl) (ev_var rfl) hB2.hms (by rw [valV_mems, mem?_at hB.nd hmm]; rfl)) ev_c (rv_ixT (st_of (hB2.hmt m hmm)) (atI_nat (j := 0) rfl))
    · refine q _ p (((exN_of e1).trans eN).trans (exN_of (e3.trans (Ex.new hp)))) (T2.ext (e3.trans (Ex.new hp))) ?_
      rw [upd_same]
      have := sortedBy_inc (ps := M.mems.map fun m => (m.nm, m.num)) (by rw [List.map_map]; exact hi)
      rw [List.map_map, List.map_map] at this
      exact congrArg (fun z : List Str => some (HO.lst (z.map V.str))) this
def spTabNames (C : Addr) : Sp := fun vs H Q _ => ∃ (d : BookD) (M : BookM), vs = [.ref d.b] ∧ BookAt C H d M ∧ ∀ H' p, H p = none → Ex H H' → H' p = some (.lst (M.tabs.map fun t => .str t.1)) → Q (.ref p) H'
theorem ok_Books_table_names {f : Addr} {fd : FuncData} (F : Fun K "table_names" "Books.table_names" s_Books_table_names f fd) (T : Top K mg) : FnOk P w K mg base CX0 1 f fd ["self"] (spTabNames T.f_Books) := by
  have nd := sc_Books_table_names.nd
  refine F.ok sc_Books_table_names (fun vs H Q E h => ?_) (fun cdv A outer s H vs Q E hr h => ?_)
  · obtain ⟨d, M, rfl, _⟩ := h
    rfl
  · obtain ⟨d, M, rfl, hB, q⟩ := h
    refine ⟨_, (pss_one (ps_ret (pe_callTy (call_list_dK rfl) (by rfl) T.m_list (by decide +kernel) (pa_cons (pe_dget (hu_of hr) (pe_fldK (K := K) rfl (pv 0) rfl) (pe_glob (v := .str "tables") (by rfl) T.m_TABLES ⟨_, rfl⟩) (fun _ _ => rfl)) pa_nil)))), ?_⟩
    refine s_retL (el_dkeys (hB.tabs_at T rfl (ev_var rfl) ev_c) hB.hts) fun p H1 hp e1 h1 => q H1 p hp e1 ?_
    rw [List.map_map] at h1
    exact h1
def spMembers (TT : List (Addr × Str)) (CH CB : Addr) : Sp := fun vs H Q _ => ∃ (d : HouseD) (M : HouseM), vs = [.ref d.h] ∧ HouseAt CH CB H d M ∧ M.bk.mems.length ≤ 1000 ∧ M.bk.inc ∧ LamX.Tabs TT H ∧ ∀ H' p, LamX.ExtN H H' → LamX.Tabs TT H' → H' p = some (.lst (M.bk.names.map V.str)) → Q (.ref p) H'
theorem ok_House_members {f : Addr} {fd : FuncData} (F : Fun K "members" "House.members" s_House_members f fd) (T : Top K mg) (TB1 : LamX.TabB base mg T.c_Books_member_names T.P_Books_member_names) : FnOk P w K mg base CX0 6 f fd ["self"] (spMembers T.tabs T.f_House T.f_Books) := by
  have nd := sc_House_members.nd
  have G_Books_member_names : FnOk P w K mg base CX0 5 T.f_Books_member_names T.fd_Books_member_names ["self"] (spMemNames T.tabs T.f_Books) := ok_Books_member_names T T.C_Books_member_names TB1
  refine F.ok sc_House_members (fun vs H Q E h => ?_) (fun cdv A outer s H vs Q E hr h => ?_)
  · obtain ⟨d, M, rfl, _⟩ := h
    rfl
  · obtain ⟨d, M, rfl, hH, hl, hi, hT, q⟩ := h
    refine ⟨_, (pss_one (ps_ret (pe_meth0 (pe_fldK (K := K) rfl (pv 0) rfl) T.cl_Books T.mt_Books_member_names G_Books_member_names (hr.mono (by omega)) T.b_Books_member_names .nil pass0 ))), ?_⟩
    refine s_retQ (te_methX (ev_fld (ev_var rfl) hH.hh T.cl_House T.na_House_books rfl) hH.hb.hb rfl fun H1 e1 => ?_)
    exact ⟨d.bk, M.bk, rfl, (hH.ex e1).hb, hl, hi, hT.ext e1, fun H' p eN T' h => q H' p ((exN_of e1).trans eN) T' h⟩
def spPurse (CH CB fU : Addr) : Sp := fun vs H Q E => ∃ (d : HouseD) (M : HouseM) (nm : Str), vs = [.ref d.h, .str nm] ∧ HouseAt CH CB H d M ∧ (∀ m, M.bk.mem? nm = some m → ∀ H', Ex H H' → Q (.int m.coins) H') ∧ (M.bk.mem? nm = none → ∀ H', Ex H H' → E (.ref fU) none H')
theorem ok_House_purse {f : Addr} {fd : FuncData} (F : Fun K "purse" "House.purse" s_House_purse f fd) (T : Top K mg) : FnOk P w K mg base (L2.CX P w) 3 f fd ["self", "name"] (spPurse T.f_House T.f_Books T.f_Unknown) := by
  have nd := sc_House_purse.nd
  have G_Books_purse_of : FnOk P w K mg base (L2.CX P w) 2 T.f_Books_purse_of T.fd_Books_purse_of ["self", "name"] (spPurseOf T.f_Books T.f_Unknown) := ok_Books_purse_of T.F_Books_purse_of T
  refine F.okX sc_House_purse (fun vs H Q E h => ?_) (fun cdv A outer s H vs Q E hr h => ?_)
  · obtain ⟨d, M, nm, rfl, _⟩ := h
    rfl
  · obtain ⟨d, M, nm, rfl, hH, q, qx⟩ := h
    refine ⟨_, (pss_one (ps_ret (pe_meth (pe_fldK (K := K) rfl (pv 0) rfl) T.cl_Books T.mt_Books_purse_of G_Books_purse_of (hr.mono (by omega)) T.b_Books_purse_of .nil (passes_call (takes_of rfl rfl rfl rfl) (fun _ _ _ _ h => h)) (pa_cons (pv 1) pa_nil)))), ?_⟩
    refine s_retQ (te_methX (ev_fld (ev_var rfl) hH.hh T.cl_House T.na_House_books rfl) hH.hb.hb rfl fun H1 e1 => ta_at' (ev_var rfl) fun H2 e2 => ?_)
    exact ⟨d.bk, M.bk, nm, rfl, ((hH.ex e1).ex e2).hb, fun m hm H' e => q m hm H' ((e1.trans e2).trans e), fun hm H' e => qx hm H' ((e1.trans e2).trans e)⟩
def spCircles (CH CB : Addr) : Sp := fun vs H Q _ => ∃ (d : HouseD) (M : HouseM), vs = [.ref d.h] ∧ HouseAt CH CB H d M ∧ ∀ H' p, H p = none → Ex H H' → H' p = some (.lst (M.bk.tabs.map fun t => .str t.1)) → Q (.ref p) H'
theorem ok_House_circles {f : Addr} {fd : FuncData} (F : Fun K "circles" "House.circles" s_House_circles f fd) (T : Top K mg) : FnOk P w K mg base CX0 2 f fd ["self"] (spCircles T.f_House T.f_Books) := by
  have nd := sc_House_circles.nd
  have G_Books_table_names : FnOk P w K mg base CX0 1 T.f_Books_table_names T.fd_Books_table_names ["self"] (spTabNames T.f_Books) := ok_Books_table_names T.F_Books_table_names T
  refine F.ok sc_House_circles (fun vs H Q E h => ?_) (fun cdv A outer s H vs Q E hr h => ?_)
  · obtain ⟨d, M, rfl, _⟩ := h
    rfl
  · obtain ⟨d, M, rfl, hH, q⟩ := h
    refine ⟨_, (pss_one (ps_ret (pe_meth0 (pe_fldK (K := K) rfl (pv 0) rfl) T.cl_Books T.mt_Books_table_names G_Books_table_names (hr.mono (by omega)) T.b_Books_table_names .nil pass0 ))), ?_⟩
    exact s_retL (el_meth (ev_fld (ev_var rfl) hH.hh T.cl_House T.na_House_books rfl) hH.hb.hb rfl ea_nil fun H1 e1 Q1 q1 _ => ⟨d.bk, M.bk, rfl, (hH.ex e1).hb, fun H' p hp e h => q1 p H' hp e h⟩) fun p H1 hp e1 h1 => q H1 p hp e1 h1
def spCoins (TT : List (Addr × Str)) (CH CB : Addr) : Sp := fun vs H Q _ => ∃ (d : HouseD) (M : HouseM), vs = [.ref d.h] ∧ HouseAt CH CB H d M ∧ M.bk.tabs = [] ∧ M.bk.mems.length ≤ 1000 ∧ M.bk.inc ∧ LamX.Tabs TT H ∧ ∀ H' p, LamX.ExtN H H' → LamX.Tabs TT H' → H' p = some (.tup [.int M.bk.brought, .int M.bk.purses.sum, .int 0, .int 0, .int 0]) → Q (.ref p) H'
theorem el_purses {σ : L2.St} {H : Hp} {p : Addr} {d : HouseD} {M : HouseM} {i j : Nat} {vs : List Nat} {CH CB fU : Addr} {E : XK} (hH : HouseAt CH CB H d M) (hl : M.bk.mems.length ≤ 1000) (hp : H p = some (.lst (M.bk.names.map V.str))) (hw : ∀ x, wipe ((wipe σ vs).set j (some x)) vs = wipe σ vs)
    (hi : ∀ x : V, ((wipe σ vs).set j (some x))[i]? = some (some (.ref d.h))) (hj : ∀ x : V, ((wipe σ vs).set j (some x))[j]? = some (some x)) : EvL (tLc (iList K (tC (.ref p))) (gName j) tYes (tMeth CH "purse" (spPurse CH CB fU) [] E (tVar i) (tCons (tVar j) tNil)) vs) σ H (M.bk.purses.map V.int) := by
  have hg : given (M.bk.names.map V.str).length (fun _ => true) (fun k => .int (M.bk.purses.getD k 0)) = M.bk.purses.map V.int := by
    rw [given_rng]
    unfold BookM.names BookM.purses
    apply List.ext_getElem?
    intro k
    simp only [List.getElem?_map, List.length_map]
    by_cases hk : k < M.bk.mems.length
    · rw [List.getElem?_range hk, List.getElem?_eq_getElem hk]
      simp [hk]
    · rw [List.getElem?_eq_none (by rw [List.length_range]; omega), List.getElem?_eq_none (by omega)]
      rfl
  rw [← hg]
  refine el_lcL _ _ ev_c (sq_of hp) (by unfold BookM.names; rw [List.length_map, List.length_map]; omega) hw (fun k x Hb eb gx => et_yes) (fun k x Hb eb gx _ => ?_)
  unfold BookM.names at gx
  rw [List.map_map, List.getElem?_map] at gx
  obtain ⟨m, hm, rfl⟩ := Option.map_eq_some_iff.mp gx
  have hpk : M.bk.purses.getD k 0 = m.coins := by
    unfold BookM.purses
    rw [List.getD_eq_getElem?_getD, List.getElem?_map, hm]
    rfl
  rw [hpk]
  have hHb := hH.ex eb
  exact ev_meth (ev_var (hi _)) hHb.hh rfl (ea_cons (ev_var (hj _)) ea_nil) fun H1 e1 Q1 q1 _ => ⟨d, M, m.nm, rfl, hHb.ex e1, fun m' hm' => by
    rw [mem?_at hH.hb.nd (List.mem_of_getElem? hm)] at hm'
    cases hm'
    exact q1, fun z => by rw [mem?_at hH.hb.nd (List.mem_of_getElem? hm)] at z; cases z⟩
theorem ok_House_coins {f : Addr} {fd : FuncData} (F : Fun K "coins" "House.coins" s_House_coins f fd) (T : Top K mg) (TB1 : LamX.TabB base mg T.c_Books_member_names T.P_Books_member_names) : FnOk P w K mg base CX0 7 f fd ["self"] (spCoins T.tabs T.f_House T.f_Books) := by
  have nd := sc_House_coins.nd
  have G_House_members : FnOk P w K mg base CX0 6 T.f_House_members T.fd_House_members ["self"] (spMembers T.tabs T.f_House T.f_Books) := ok_House_members T.F_House_members T TB1
  have G_House_purse : FnOk P w K mg base (L2.CX P w) 3 T.f_House_purse T.fd_House_purse ["self", "name"] (spPurse T.f_House T.f_Books T.f_Unknown) := ok_House_purse T.F_House_purse T
  have G_Books_all_tables : FnOk P w K mg base CX0 1 T.f_Books_all_tables T.fd_Books_all_tables ["self"] (spAllTables T.f_Books) := ok_Books_all_tables T.F_Books_all_tables T
  have G_Books_brought : FnOk P w K mg base CX0 1 T.f_Books_brought T.fd_Books_brought ["self"] (spBrought T.f_Books) := ok_Books_brought T.F_Books_brought T
  have G_Table_holdings : FnOk P w K mg base CX0 1 T.f_Table_holdings T.fd_Table_holdings ["self"] spNever := ok_never (CX := CX0) T.F_Table_holdings sc_Table_holdings
  refine F.ok sc_House_coins (fun vs H Q E h => ?_) (fun cdv A outer s H vs Q E hr h => ?_)
  · obtain ⟨d, M, rfl, _⟩ := h
    rfl
  · obtain ⟨d, M, rfl, hH, hT0, hl, hi, hT, q⟩ := h
    refine ⟨_, (pss_cons (ps_set (i := 1) nd rfl (.inl rfl) (pe_callB (cr_sum rfl) (by rfl) T.m_sum (by decide +kernel) (pa_cons (pe_lc (own := [("name", 8)]) (g := gName 8) (tt := tYes) rfl nd (pi_list (pe_meth0 (pv 0) T.cl_House T.mt_House_members G_House_members (hr.mono (by omega)) T.b_House_members .nil pass0 )) (blkOk_by (own := [("name", 8)]) (N := Su.N_House_coins) (sc := defScope s_House_coins) (by decide +kernel)) (fun _ _ _ _ _ => (pg_name (i := 8) nd rfl (.inl rfl))) (fun _ _ _ _ _ => pts_nil) (fun _ _ _ _ _ => (pe_meth (pv 0) T.cl_House T.mt_House_purse G_House_purse (hr.mono (by omega)) T.b_House_purse .nil passL (pa_cons (pv 8) pa_nil)))) pa_nil)))
      (pss_cons (ps_set (i := 2) nd rfl (.inr rfl) (pe_lc (own := [("table", 6)]) (g := gName 6) (tt := tYes) rfl nd (pi_list (pe_meth0 (pe_fldK (K := K) rfl (pv 0) rfl) T.cl_Books T.mt_Books_all_tables G_Books_all_tables (hr.mono (by omega)) T.b_Books_all_tables .nil pass0 )) (blkOk_by (own := [("table", 6)]) (N := Su.N_House_coins) (sc := defScope s_House_coins) (by decide +kernel)) (fun _ _ _ _ _ => (pg_name (i := 6) nd rfl (.inl rfl))) (fun _ _ _ _ _ => pts_nil) (fun _ _ _ _ _ => (pe_meth0 (pv 6) T.cl_Table T.mt_Table_holdings G_Table_holdings (hr.mono (by omega)) T.b_Table_holdings .nil pass0 ))))
      (pss_cons (ps_asg (pe_lc (own := [("k", 7)]) (g := gName 7) (tt := tYes) rfl nd (pi_range1 rfl T.m_range (pa_cons pe_int pa_nil)) (blkOk_by (own := [("k", 7)]) (N := Su.N_House_coins) (sc := defScope s_House_coins) (by decide +kernel)) (fun _ _ _ _ _ => (pg_name (i := 7) nd rfl (.inr rfl))) (fun _ _ _ _ _ => pts_nil) (fun _ _ _ _ _ => (pe_callB (cr_sumK (K := K) rfl) (by rfl) T.m_sum (by decide +kernel) (pa_cons (pe_lc (own := [("held", 9)]) (g := gName 9) (tt := tYes) rfl nd (pi_listK (K := K) (pv 2)) (blkOk_by (own := [("held", 9)]) (by rfl)) (fun _ _ _ _ _ => (pg_name (i := 9) nd rfl (.inl rfl))) (fun _ _ _ _ _ => pts_nil) (fun _ _ _ _ _ => (pe_ix (ix_tupK (K := K) rfl) (pv 9) (pv 7) (fun _ _ => rfl)))) pa_nil)))) (pg_unl rfl (pgs_cons (pg_name (i := 3) nd rfl (.inl rfl)) (pgs_cons (pg_name (i := 4) nd rfl (.inl rfl)) (pgs_cons (pg_name (i := 5) nd rfl (.inl rfl)) pgs_nil)))))
      (pss_one (ps_ret (pe_tup (pa_cons (pe_meth0 (pe_fldK (K := K) rfl (pv 0) rfl) T.cl_Books T.mt_Books_brought G_Books_brought (hr.mono (by omega)) T.b_Books_brought .nil pass0 ) (pa_cons (pv 1) (pa_cons (pv 3) (pa_cons (pv 4) (pa_cons (pv 5) pa_nil))))))))))), ?_⟩
    refine q_asgX (cb_one (lc_at (te_methX (ev_var rfl) hH.hh rfl fun H1 e1 => ?_)))
    refine ⟨d, M, rfl, hH.ex e1, hl, hi, hT.ext e1, fun H2 p eN T2 hp => ?_⟩
    have hH2 := (hH.ex e1).exN eN
    refine el_run (el_purses hH2 hl hp (fun x => rfl) (fun x => rfl) (fun x => rfl)) fun p3 H3 hp3 e3 h3 => ⟨p3, M.bk.purses, rfl, sq_of h3, ?_⟩
    have hH3 := hH2.ex e3
    have eN3 := ((exN_of e1).trans eN).trans (exN_of e3)
    have T3 := T2.ext e3
    dsimp only
    refine q_asgL (xs := []) (el_lcNL (xs := []) (fun _ => true) (fun _ => .non) (el_meth (ev_fld (ev_var rfl) hH3.hh T.cl_House T.na_House_books rfl) hH3.hb.hb rfl ea_nil fun H4 e4 Q4 q4 _ => ⟨d.bk, M.bk, rfl, (hH3.ex e4).hb, fun H' p hp e h => q4 p H' hp e (by rw [hT0] at h; exact h)⟩) (by decide) (fun x => rfl) (fun k x Hb eb gx => by cases gx) (fun k x Hb eb gx _ => by cases gx)) fun p4 H4 hp4 e4 h4 => ?_
    refine q_asgXg (el_run (xs := [.int 0, .int 0, .int 0]) (el_lcR1 (n := 3) (fun _ => true) (fun _ => .int 0) (ea_cons ev_c ea_nil) (by omega) (fun x => rfl) (fun k Hb eb hk => et_yes) (fun k Hb eb hk _ => ?_)) fun p5 H5 hp5 e5 h5 => ⟨p5, _, rfl, sq_of h5, rfl, ?_⟩)
    · exact ev_sumN (ns := []) (el_lcL (xs := []) (fun _ => true) (fun _ => .non) (ev_var rfl) (sq_of (eb _ _ h4)) (by decide) (fun x => rfl) (fun k x Hb eb gx => by cases gx) (fun k x Hb eb gx _ => by cases gx))
    · have e35 := e4.trans e5
      have hH5 := hH3.ex e35
      refine ⟨_, _, rfl, _, _, rfl, _, _, rfl, rfl, ?_⟩
      show tRet _ _ [some (.ref d.h), some (.int M.bk.purses.sum), some (.ref p4), some (.int 0), some (.int 0), some (.int 0), none, none, none, none] _
      refine s_retU (eu_tup (vs := [.int M.bk.brought, .int M.bk.purses.sum, .int 0, .int 0, .int 0]) (ea_cons (ev_meth (ev_fld (ev_var rfl) hH5.hh T.cl_House T.na_House_books rfl) hH5.hb.hb rfl ea_nil fun H6 e6 Q6 q6 _ => ⟨d.bk, M.bk, rfl, (hH5.ex e6).hb, q6⟩) (ea_cons (ev_var rfl) (ea_cons (ev_var rfl) (ea_cons (ev_var rfl) (ea_cons (ev_var rfl) ea_nil))))) (by show 5 ≤ 100000; decide)) fun p6 H6 _ e6 h6 => ?_
      exact q H6 p6 (eN3.trans (exN_of (e35.trans e6))) (T3.ext (e35.trans e6)) h6
end

end Su
namespace Su
open TL
/-! ### comprehensions over a dict's keys; the law's own book -/
section
variable {K : PySem.W.Frag} {σ : L2.St} {H : Hp}
theorem el_lcK {tl te : TE} {j : Nat} {vs : List Nat} {d : Addr} {kvs : List (Key × V)} (v : Nat → V) (hd : H d = some (.dK kvs)) (hz : kvs.length ≤ 40000) (hw : ∀ x, wipe ((wipe σ vs).set j (some x)) vs = wipe σ vs)
    (h : ∀ od Hb, Hb d = some (.frz od (.dK kvs)) → (∀ b o, b ≠ d → H b = some o → Hb b = some o) → Ev tl σ Hb (.ref d))
    (he : ∀ od Hb (i : Nat) k x, Hb d = some (.frz od (.dK kvs)) → (∀ b o, b ≠ d → H b = some o → Hb b = some o) → kvs[i]? = some (k, x) → Ev te ((wipe σ vs).set j (some (kV k))) Hb (v i)) :
    EvL (tLockE (tLc (iKeys tl) (gName j) tYes te vs)) σ H (given kvs.length (fun _ => true) v) := fun H0 e Q q => by
  refine ⟨d, .dK kvs, e _ _ hd, True.intro, fun od => ?_⟩
  have f0 : (upd H0 d (.frz od (.dK kvs))) d = some (.frz od (.dK kvs)) := upd_same
  have st0 : ∀ b o, b ≠ d → H0 b = some o → (upd H0 d (.frz od (.dK kvs))) b = some o := fun b o nb hb => by rw [upd_ne nb]; exact hb
  refine h od _ f0 (fun b o nb hb => st0 b o nb (e b o hb)) _ (Ex.refl _) _ fun H1 e1 => ?_
  have f1 := e1 _ _ f0
  refine ⟨d, od, rfl, .inl ⟨kvs, f1, lcw (σ := σ) (t := tYes) (te := te) (g := gName j) (vs := vs) (Q := fun v H' => H' d = some (.frz od (.dK kvs)) ∧ Q v (upd H' d (.dK kvs))) walk_keys (fun i x => ∃ k v, kvs[i]? = some (k, v) ∧ x = kV k) (fun _ _ _ _ y => y) (fun _ => true) v (fun H' e' => e' _ _ f1) hz (fun i x hi hx => ?_) (fun D H' hD e' h' => ?_)⟩⟩
  · obtain ⟨k, y, hk, rfl⟩ := hx
    exact ⟨_, tg_name, hw _, et_yes, fun _ => he od H1 i k y f1 (fun b o nb hb => e1 b o (st0 b o nb (e b o hb))) hk⟩
  · have nD : D ≠ d := fun z => by rw [z, f1] at hD; cases hD
    refine ⟨e' _ _ f1, q D _ ?_ (fun b o hb => ?_) (by rw [upd_ne nD]; exact h')⟩
    · have := fresh_back e1 hD
      rwa [upd_ne nD] at this
    · by_cases nb : b = d
      · rw [nb, upd_same, ← hb, nb]
        exact (e _ _ hd).symm
      · rw [upd_ne nb]
        exact e' b o (e1 b o (st0 b o nb hb))
theorem q_lockAsg {te : TE} {i : Nat} {D : Ends} {tz : TS} (k : tLockE te σ H fun v H1 => tz D (σ.set i (some v)) H1) : tSeq (tLock (tAsg te (gName i))) tz D σ H := k
theorem ev_dgetF {td ty : TE} {d : Addr} {kvs : List (Key × V)} {k : Key} {v : V} (h1 : Ev td σ H (.ref d)) (h2 : Ev ty σ H (kV k)) (hd : Rd H d (.dK kvs)) (hv : valV kvs k = some v) : Ev (tDGet td ty) σ H v := fun H1 e Q q =>
  h1 H1 e _ fun H2 e2 => h2 H2 (e.trans e2) _ fun H3 e3 => ⟨d, v, rfl, .inl ⟨kvs, k, ex_rd ((e.trans e2).trans e3) hd, rfl, hv.symm⟩, q H3 (e2.trans e3)⟩
end
def psKv (ps : List (Str × Int)) : List (Key × V) := ps.map fun p => ((.inr p.1 : Key), V.int p.2)
structure LBk (H : Hp) (b pd td : Addr) (ps : List (Str × Int)) (c : Int) : Prop where
  hb : H b = some (.lst [.ref pd, .ref td, .int c])
  hp : H pd = some (.dK (psKv ps))
  ht : H td = some (.dK [])
  nd : (ps.map (·.1)).Nodup
  ne : pd ≠ td
theorem LBk.ex {H H' : Hp} {b pd td : Addr} {ps : List (Str × Int)} {c : Int} (h : LBk H b pd td ps c) (e : Ex H H') : LBk H' b pd td ps c := ⟨e _ _ h.hb, e _ _ h.hp, e _ _ h.ht, h.nd, h.ne⟩
theorem LBk.exN {H H' : Hp} {b pd td : Addr} {ps : List (Str × Int)} {c : Int} (h : LBk H b pd td ps c) (e : LamX.ExtN H H') : LBk H' b pd td ps c := ⟨e _ _ h.hb (fun _ z => nomatch z), e _ _ h.hp (fun _ z => nomatch z), e _ _ h.ht (fun _ z => nomatch z), h.nd, h.ne⟩
def dueD (ps : List (Str × Int)) (c : Int) : PyData := .list [.list (ps.map fun p => .str p.1), .list (ps.map fun p => .int p.2), .list [], .list [], .tuple [.int c, .int (ps.map (·.2)).sum, .int 0, .int 0, .int 0]]
def BookM.ps (M : BookM) : List (Str × Int) := M.mems.map fun m => (m.nm, m.coins)
theorem pl_due {ps : List (Str × Int)} {c : Int} (h : ps.length ≤ 1000) : PlD 3 (dueD ps c) := .list (by show 5 ≤ 1000; decide) fun x hx => by
  simp only [List.mem_cons, List.not_mem_nil, or_false] at hx
  rcases hx with rfl | rfl | rfl | rfl | rfl
  · refine .list (by rw [List.length_map]; exact h) fun y hy => ?_
    obtain ⟨p, _, rfl⟩ := List.mem_map.mp hy
    exact .str _
  · refine .list (by rw [List.length_map]; exact h) fun y hy => ?_
    obtain ⟨p, _, rfl⟩ := List.mem_map.mp hy
    exact .int _
  · exact .list (Nat.zero_le _) fun x hx => absurd hx List.not_mem_nil
  · exact .list (Nat.zero_le _) fun x hx => absurd hx List.not_mem_nil
  · refine .tuple (by show 5 ≤ 1000; decide) fun y hy => ?_
    simp only [List.mem_cons, List.not_mem_nil, or_false] at hy
    rcases hy with rfl | rfl | rfl | rfl | rfl <;> exact .int _
theorem valV_ps {ps : List (Str × Int)} (nd : (ps.map (·.1)).Nodup) {i : Nat} {p : Str × Int} (h : ps[i]? = some p) : valV (psKv ps) (.inr p.1) = some (.int p.2) := by
  unfold psKv
  rw [valV_kv Prod.fst (fun p => V.int p.2) ps p.1]
  have hm := List.mem_of_getElem? h
  have : ps.find? (fun a => decide (a.1 = p.1)) = some p := by
    clear h
    induction ps with
    | nil => cases hm
    | cons x xs ih =>
      rw [List.map_cons, List.nodup_cons] at nd
      rcases List.mem_cons.mp hm with rfl | hm'
      · rw [List.find?_cons_of_pos (by simp)]
      · have ne : x.1 ≠ p.1 := fun z => nd.1 (z ▸ List.mem_map.mpr ⟨p, hm', rfl⟩)
        rw [List.find?_cons_of_neg (by simpa using ne)]
        exact ih nd.2 hm'
  rw [this]
  rfl
section
variable {P : Program} {w : World} {K : PySem.W.Frag} {mg : Str → Option Value} {base : Heap}
def spDue (K : PySem.W.Frag) : Sp := fun vs H Q _ => ∃ (b pd td : Addr) (ps : List (Str × Int)) (c : Int), vs = [.ref b] ∧ LBk H b pd td ps c ∧ ps.length ≤ 1000 ∧ ∀ H' v, Ex H H' → Dp K H' v (dueD ps c) → Q v H'
theorem ok__law_due (T : Top K mg) : FnOk P w K mg base CX0 2 T.f__law_due T.fd__law_due ["_law_book"] (spDue K) := by
  have nd := sc__law_due.nd
  have G__law_table_due : FnOk P w K mg base CX0 1 T.f__law_table_due T.fd__law_table_due ["_law_table"] spNever := ok_never (CX := CX0) T.F__law_table_due sc__law_table_due
  refine T.F__law_due.ok sc__law_due (fun vs H Q E h => ?_) (fun cdv A outer s H vs Q E hr h => ?_)
  · obtain ⟨b, pd, td, ps, c, rfl, _⟩ := h
    rfl
  · obtain ⟨b, pd, td, ps, c, rfl, hL, hl, q⟩ := h
    refine ⟨_, (pss_cons (ps_set (i := 1) nd rfl (.inr rfl) (pe_lock (pe_lc (own := [("_law_circle", 5)]) (g := gName 5) (tt := tYes) rfl nd (pi_keys (pe_ix ix_list (pv 0) pe_int (fun _ _ => rfl))) (blkOk_by (own := [("_law_circle", 5)]) (N := Su.N__law_due) (sc := defScope s__law_due) (by decide +kernel)) (fun _ _ _ _ _ => (pg_name (i := 5) nd rfl (.inl rfl))) (fun _ _ _ _ _ => pts_nil) (fun _ _ _ _ _ => (pe_call G__law_table_due (hr.mono (by omega)) (by rfl) T.m__law_table_due T.F__law_table_due.kp T.b__law_table_due .nil pass0 (pa_cons (pe_dget (hu_of hr) (pe_ix (ix_listK (K := K) rfl) (pv 0) pe_int (fun _ _ => rfl)) (pv 5) (fun _ _ => rfl)) pa_nil))))))
      (pss_cons (ps_setLc (i := 2) (own := [("_law_k", 6)]) (g := gName 6) (tt := tYes) rfl nd rfl rfl (sw_true rfl rfl rfl (by decide +kernel)) (pi_range1 rfl T.m_range (pa_cons pe_int pa_nil)) (blkOk_by (own := [("_law_k", 6)]) (N := Su.N__law_due) (sc := defScope s__law_due) (by decide +kernel)) (fun _ _ _ _ _ => (pg_name (i := 6) nd rfl (.inr rfl))) (fun _ _ _ _ _ => pts_nil) (fun _ _ _ _ _ => (pe_callB (cr_sumK (K := K) rfl) (by rfl) T.m_sum (by decide +kernel) (pa_cons (pe_lc (own := [("_law_row", 8)]) (g := gName 8) (tt := tYes) rfl nd (pi_listK (K := K) (pv 1)) (blkOk_by (own := [("_law_row", 8)]) (by rfl)) (fun _ _ _ _ _ => (pg_name (i := 8) nd rfl (.inl rfl))) (fun _ _ _ _ _ => pts_nil) (fun _ _ _ _ _ => (pe_ix (ix_tupK (K := K) rfl) (pe_ix (ix_listK (K := K) rfl) (pv 8) pe_int (fun _ _ => rfl)) (pv 6) (fun _ _ => rfl)))) pa_nil))))
      (pss_cons (ps_lock (ps_setLc (i := 3) (own := [("_law_name", 7)]) (g := gName 7) (tt := tYes) rfl nd rfl rfl (sw_true rfl rfl rfl (by decide +kernel)) (pi_keys (pe_ix ix_list (pv 0) pe_int (fun _ _ => rfl))) (blkOk_by (own := [("_law_name", 7)]) (N := Su.N__law_due) (sc := defScope s__law_due) (by decide +kernel)) (fun _ _ _ _ _ => (pg_name (i := 7) nd rfl (.inl rfl))) (fun _ _ _ _ _ => pts_nil) (fun _ _ _ _ _ => (pe_dget (hu_of hr) (pe_ix (ix_listK (K := K) rfl) (pv 0) pe_int (fun _ _ => rfl)) (pv 7) (fun _ _ => rfl)))))
      (pss_cons (ps_set (i := 4) nd rfl (.inl rfl) (pe_tup (pa_cons (pe_ix ix_list (pv 0) pe_int (fun _ _ => rfl)) (pa_cons (pe_callB (cr_sum rfl) (by rfl) T.m_sum (by decide +kernel) (pa_cons (pv 3) pa_nil)) (pa_cons (pe_ix ix_list (pv 2) pe_int (fun _ _ => rfl)) (pa_cons (pe_ix ix_list (pv 2) pe_int (fun _ _ => rfl)) (pa_cons (pe_ix ix_list (pv 2) pe_int (fun _ _ => rfl)) pa_nil)))))))
      (pss_one (ps_ret (pe_lst (pa_cons (pe_callTy (call_list_dK rfl) (by rfl) T.m_list (by decide +kernel) (pa_cons (pe_ix ix_list (pv 0) pe_int (fun _ _ => rfl)) pa_nil)) (pa_cons (pv 3) (pa_cons (pe_callTy (call_list_dK rfl) (by rfl) T.m_list (by decide +kernel) (pa_cons (pe_ix ix_list (pv 0) pe_int (fun _ _ => rfl)) pa_nil)) (pa_cons (pv 1) (pa_cons (pv 4) pa_nil)))))))))))), ?_⟩
    have nbd : ∀ {x kvs}, H x = some (.dK kvs) → b ≠ x := fun {x kvs} hx z => by
      have hb := hL.hb
      rw [z, hx] at hb
      cases hb
    have g0 : ∀ {Hb : Hp} {σ : L2.St}, Hb b = some (.lst [.ref pd, .ref td, .int c]) → σ[0]? = some (some (.ref b)) → Ev (tOp (rIxL K) (tVar 0) (tC (.int 0))) σ Hb (.ref pd) := fun hb hσ => ev_op (ev_var hσ) ev_c (rv_ixL (sq_of hb) (atI_nat (j := 0) rfl))
    have g1 : ∀ {Hb : Hp} {σ : L2.St}, Hb b = some (.lst [.ref pd, .ref td, .int c]) → σ[0]? = some (some (.ref b)) → Ev (tOp (rIxL K) (tVar 0) (tC (.int 1))) σ Hb (.ref td) := fun hb hσ => ev_op (ev_var hσ) ev_c (rv_ixL (sq_of hb) (atI_nat (j := 1) rfl))
    have g2 : ∀ {Hb : Hp} {σ : L2.St}, Hb b = some (.lst [.ref pd, .ref td, .int c]) → σ[0]? = some (some (.ref b)) → Ev (tOp (rIxL K) (tVar 0) (tC (.int 2))) σ Hb (.int c) := fun hb hσ => ev_op (ev_var hσ) ev_c (rv_ixL (sq_of hb) (atI_nat (j := 2) rfl))
    refine q_asgL (xs := []) (el_lcK (kvs := []) (fun _ => .non) hL.ht (by decide) (fun x => rfl) (fun od Hb hf st => g1 (st _ _ (nbd hL.ht) hL.hb) rfl) (fun od Hb i k x hf st gx => by cases gx)) fun p1 H1 hp1 e1 h1 => ?_
    refine q_asgL (xs := [.int 0, .int 0, .int 0]) (el_lcR1 (n := 3) (fun _ => true) (fun _ => .int 0) (ea_cons ev_c ea_nil) (by omega) (fun x => rfl) (fun k Hb eb hk => et_yes) (fun k Hb eb hk _ => ?_)) fun p2 H2 hp2 e2 h2 => ?_
    · exact ev_sumN (ns := []) (el_lcL (xs := []) (fun _ => true) (fun _ => .non) (ev_var rfl) (sq_of (eb _ _ h1)) (by decide) (fun x => rfl) (fun k x Hb eb gx => by cases gx) (fun k x Hb eb gx _ => by cases gx))
    · have e12 := e1.trans e2
      have hL2 := hL.ex e12
      have nbd2 : b ≠ pd := nbd hL.hp
      have hg : given (psKv ps).length (fun _ => true) (fun k => .int ((ps.map (·.2)).getD k 0)) = (ps.map (·.2)).map V.int := by
        rw [given_rng]
        unfold psKv
        rw [List.length_map]
        apply List.ext_getElem?
        intro k
        simp only [List.getElem?_map]
        by_cases hk : k < ps.length
        · rw [List.getElem?_range hk, List.getElem?_eq_getElem hk]
          simp [hk]
        · rw [List.getElem?_eq_none (by rw [List.length_range]; omega), List.getElem?_eq_none (by omega)]
          rfl
      refine q_lockAsg (el_run (xs := (ps.map (·.2)).map V.int) ?_ fun p3 H3 hp3 e3 h3 => ?_)
      · rw [← hg]
        refine el_lcK (kvs := psKv ps) _ hL2.hp (by unfold psKv; rw [List.length_map]; omega) (fun x => rfl) (fun od Hb hf st => g0 (st _ _ nbd2 hL2.hb) rfl) (fun od Hb i k x hf st gx => ?_)
        unfold psKv at gx
        rw [List.getElem?_map] at gx
        obtain ⟨p, hp, ep⟩ := Option.map_eq_some_iff.mp gx
        cases ep
        have hpk : (ps.map (·.2)).getD i 0 = p.2 := by
          rw [List.getD_eq_getElem?_getD, List.getElem?_map, hp]
          rfl
        rw [hpk]
        exact ev_dgetF (k := .inr p.1) (g0 (st _ _ nbd2 hL2.hb) rfl) (ev_var rfl) (.inr ⟨od, hf⟩) (valV_ps hL.nd hp)
      · have hL3 := hL2.ex e3
        have h23 := e3 _ _ h2
        refine q_asgU (xs := [.int c, .int (ps.map (·.2)).sum, .int 0, .int 0, .int 0]) (eu_tup (ea_cons (g2 hL3.hb rfl) (ea_cons (ev_sumV (ev_var rfl) (sq_of h3)) (ea_cons (ev_op (ev_var rfl) ev_c (rv_ixL (sq_of h23) (atI_nat (j := 0) rfl))) (ea_cons (ev_op (ev_var rfl) ev_c (rv_ixL (sq_of h23) (atI_nat (j := 1) rfl))) (ea_cons (ev_op (ev_var rfl) ev_c (rv_ixL (sq_of h23) (atI_nat (j := 2) rfl))) ea_nil))))) (by show 5 ≤ 100000; decide)) fun p4 H4 hp4 e4 h4 => ?_
        have hL4 := hL3.ex e4
        have h14 := e4 _ _ (e3 _ _ (e2 _ _ h1))
        refine s_retQ ((evd_lst (K := K) (ds := [.list (ps.map fun p : Str × Int => .str p.1), .list (ps.map fun p : Str × Int => .int p.2), .list [], .list [], .tuple [.int c, .int (ps.map fun p : Str × Int => p.2).sum, .int 0, .int 0, .int 0]]) (evad_cons (evd_L (el_dkeys (g0 hL4.hb rfl) hL4.hp) ?_) (evad_cons (evd_v (ev_var rfl) (.lst (sq_of (e4 _ _ h3)) ?_)) (evad_cons (evd_L (xs := []) (el_dkeys (kvs := []) (g1 hL4.hb rfl) hL4.ht) .nil) (evad_cons (evd_v (ev_var rfl) (.lst (sq_of h14) .nil)) (evad_cons (evd_v (ev_var rfl) (.tup (st_of h4) (.cons (.int _) (.cons (.int _) (.cons (.int _) (.cons (.int _) (.cons (.int _) .nil))))))) evad_nil))))) (by show 5 ≤ 1000; decide)) H4 (Ex.refl _) _ fun v H' e hd => q H' v (((e12.trans e3).trans e4).trans e) hd)
        · unfold psKv
          rw [List.map_map]
          exact dpa_of (fun p : Str × Int => V.str p.1) (fun p => PyData.str p.1) ps fun p _ => .str _
        · rw [List.map_map]
          exact dpa_of (fun p : Str × Int => V.int p.2) (fun p => PyData.int p.2) ps fun p _ => .int _
theorem str_eq {i j : Str} : decide (V.str i = V.str j) = decide (i = j) := by
  by_cases h : i = j
  · rw [decide_eq_true h, decide_eq_true (congrArg V.str h)]
  · rw [decide_eq_false h, decide_eq_false fun z => h (V.str.inj z)]
def names16 : List Str := ["BadName", "BadNumber", "Known", "Unknown", "Twice", "Seated", "Holding", "Short", "NoSeat", "Ended", "Fell", "Paid", "NoBids", "NotWaiting", "Uncovered", "NoOrder"]
def marksOf (wd : Str) : List Bool := if wd = "" then [] else names16.map fun n => decide (n = wd)
def spMarks : Sp := fun vs H Q _ => ∃ wd : Str, vs = [.str wd] ∧ ∀ H' p, H p = none → Ex H H' → H' p = some (.lst ((marksOf wd).map V.bl)) → Q (.ref p) H'
theorem rv_addS {a b : Str} {H : Hp} (hz : a.length + b.length ≤ 100000) : RV (fun x y H Q => ∃ i j : Str, x = .str i ∧ y = .str j ∧ i.length + j.length ≤ sizeLine ∧ Q (.str (i ++ j)) H) (.str a) (.str b) H (.str (a ++ b)) := fun H1 _ _ q => ⟨a, b, rfl, rfl, sz_of hz, q H1 (Ex.refl H1)⟩
theorem words16 : Txt.split (Txt.join (Str.ofString " ") names16) (Str.ofString " ") = names16 := split_blank (by decide +kernel) (by decide +kernel)
theorem ok__law_marks (T : Top K mg) : FnOk P w K mg base CX0 1 T.f__law_marks T.fd__law_marks ["_law_word"] spMarks := by
  have nd := sc__law_marks.nd
  refine T.F__law_marks.ok sc__law_marks (fun vs H Q E h => ?_) (fun cdv A outer s H vs Q E hr h => ?_)
  · obtain ⟨wd, rfl, _⟩ := h
    rfl
  · obtain ⟨wd, rfl, q⟩ := h
    refine ⟨_, (pss_cons (ps_set (i := 1) nd rfl (.inl rfl) pe_str)
      (pss_cons (ps_set (i := 1) nd rfl (.inl rfl) (pe_op op_add_str (pv 1) pe_str))
      (pss_cons (ps_if (pt_cmpR op_eq (pv 0) pe_str (nomark _))
        (pss_one (ps_ret (pe_lst pa_nil)))
        pss_nil)
      (pss_one (ps_ret (pe_lc (own := [("_law_one", 2)]) (g := gName 2) (tt := tYes) rfl nd (pi_list (pe_split (pv 1) pe_str)) (blkOk_by (own := [("_law_one", 2)]) (N := Su.N__law_marks) (sc := defScope s__law_marks) (by decide +kernel)) (fun _ _ _ _ _ => (pg_name (i := 2) nd rfl (.inl rfl))) (fun _ _ _ _ _ => pts_nil) (fun _ _ _ _ _ => (pe_cmpR op_eq (pv 2) (pv 0) (nomark _))))))))), ?_⟩
    refine q_asg ev_c fun H1 e1 => ?_
    refine q_asg (ev_op (ev_var rfl) ev_c (rv_addS (by decide +kernel))) fun H2 e2 => ?_
    have e12 := e1.trans e2
    refine q_when (b := decide (wd = "")) (et_is (et_test (ev_op (ev_var rfl) ev_c (rv_eq rfl))) str_eq) (fun hb H3 e3 => ?_) (fun hb H3 e3 => ?_)
    · refine s_retL (el_lst ea_nil (by decide)) fun p H4 hp e4 h4 => q H4 p (fresh_back (e12.trans e3) hp) ((e12.trans e3).trans e4) ?_
      rw [h4]
      unfold marksOf
      rw [if_pos (of_decide_eq_true hb)]
      rfl
    · refine s_retL (xs := (marksOf wd).map V.bl) ?_ fun p H4 hp e4 h4 => q H4 p (fresh_back (e12.trans e3) hp) ((e12.trans e3).trans e4) h4
      have hg : given (names16.map V.str).length (fun _ => true) (fun k => .bl (decide (names16.getD k "" = wd))) = (marksOf wd).map V.bl := by
        unfold marksOf
        rw [if_neg (of_decide_eq_false hb), given_rng]
        rfl
      rw [← hg]
      refine el_lcNL _ _ (el_split (ev_var rfl) ev_c (by decide +kernel) (by decide +kernel) ((congrArg (Txt.split · (Str.ofString " ")) (by decide +kernel)).trans words16)) (by decide) (fun x => rfl) (fun k x Hb eb gx => et_yes) (fun k x Hb eb gx _ => ?_)
      rw [List.getElem?_map] at gx
      obtain ⟨z, hz, rfl⟩ := Option.map_eq_some_iff.mp gx
      have : names16.getD k "" = z := by rw [List.getD_eq_getElem?_getD, hz]; rfl
      rw [this]
      exact ev_is (ev_op (ev_var rfl) (ev_var rfl) (rv_eq rfl)) (congrArg V.bl str_eq)
def spSeen (K : PySem.W.Frag) (TT : List (Addr × Str)) (CH CB : Addr) : Sp := fun vs H Q _ => ∃ (d : HouseD) (M : HouseM), vs = [.ref d.h] ∧ HouseAt CH CB H d M ∧ M.bk.tabs = [] ∧ M.bk.mems.length ≤ 1000 ∧ M.bk.inc ∧ LamX.Tabs TT H ∧ ∀ H' v, LamX.ExtN H H' → LamX.Tabs TT H' → Dp K H' v (dueD M.bk.ps M.bk.brought) → Q v H'
theorem ok__law_seen (T : Top K mg) (TB1 : LamX.TabB base mg T.c_Books_member_names T.P_Books_member_names) : FnOk P w K mg base CX0 8 T.f__law_seen T.fd__law_seen ["_law_house"] (spSeen K T.tabs T.f_House T.f_Books) := by
  have nd := sc__law_seen.nd
  have G_House_members : FnOk P w K mg base CX0 6 T.f_House_members T.fd_House_members ["self"] (spMembers T.tabs T.f_House T.f_Books) := ok_House_members T.F_House_members T TB1
  have G_House_purse : FnOk P w K mg base (L2.CX P w) 3 T.f_House_purse T.fd_House_purse ["self", "name"] (spPurse T.f_House T.f_Books T.f_Unknown) := ok_House_purse T.F_House_purse T
  have G_House_circles : FnOk P w K mg base CX0 2 T.f_House_circles T.fd_House_circles ["self"] (spCircles T.f_House T.f_Books) := ok_House_circles T.F_House_circles T
  have G_House_coins : FnOk P w K mg base CX0 7 T.f_House_coins T.fd_House_coins ["self"] (spCoins T.tabs T.f_House T.f_Books) := ok_House_coins T.F_House_coins T TB1
  have G__law_table_seen : FnOk P w K mg base CX0 1 T.f__law_table_seen T.fd__law_table_seen ["_law_house", "_law_circle"] spNever := ok_never (CX := CX0) T.F__law_table_seen sc__law_table_seen
  refine T.F__law_seen.ok sc__law_seen (fun vs H Q E h => ?_) (fun cdv A outer s H vs Q E hr h => ?_)
  · obtain ⟨d, M, rfl, _⟩ := h
    rfl
  · obtain ⟨d, M, rfl, hH, hT0, hl, hi, hT, q⟩ := h
    refine ⟨_, (pss_cons (ps_setLc (i := 1) (own := [("_law_circle", 3)]) (g := gName 3) (tt := tYes) rfl nd rfl rfl (sw_true rfl rfl rfl (by decide +kernel)) (pi_list (pe_meth0 (pv 0) T.cl_House T.mt_House_circles G_House_circles (hr.mono (by omega)) T.b_House_circles .nil pass0 )) (blkOk_by (own := [("_law_circle", 3)]) (N := Su.N__law_seen) (sc := defScope s__law_seen) (by decide +kernel)) (fun _ _ _ _ _ => (pg_name (i := 3) nd rfl (.inl rfl))) (fun _ _ _ _ _ => pts_nil) (fun _ _ _ _ _ => (pe_call G__law_table_seen (hr.mono (by omega)) (by rfl) T.m__law_table_seen T.F__law_table_seen.kp T.b__law_table_seen .nil pass0 (pa_cons (pv 0) (pa_cons (pv 3) pa_nil)))))
      (pss_cons (ps_setLc (i := 2) (own := [("_law_name", 4)]) (g := gName 4) (tt := tYes) rfl nd rfl rfl (sw_true rfl rfl rfl (by decide +kernel)) (pi_list (pe_meth0 (pv 0) T.cl_House T.mt_House_members G_House_members (hr.mono (by omega)) T.b_House_members .nil pass0 )) (blkOk_by (own := [("_law_name", 4)]) (N := Su.N__law_seen) (sc := defScope s__law_seen) (by decide +kernel)) (fun _ _ _ _ _ => (pg_name (i := 4) nd rfl (.inl rfl))) (fun _ _ _ _ _ => pts_nil) (fun _ _ _ _ _ => (pe_meth (pv 0) T.cl_House T.mt_House_purse G_House_purse (hr.mono (by omega)) T.b_House_purse .nil passL (pa_cons (pv 4) pa_nil))))
      (pss_one (ps_ret (pe_lst (pa_cons (pe_meth0 (pv 0) T.cl_House T.mt_House_members G_House_members (hr.mono (by omega)) T.b_House_members .nil pass0 ) (pa_cons (pv 2) (pa_cons (pe_meth0 (pv 0) T.cl_House T.mt_House_circles G_House_circles (hr.mono (by omega)) T.b_House_circles .nil pass0 ) (pa_cons (pv 1) (pa_cons (pe_meth0 (pv 0) T.cl_House T.mt_House_coins G_House_coins (hr.mono (by omega)) T.b_House_coins .nil pass0 ) pa_nil)))))))))), ?_⟩
    have circ : ∀ {σ : L2.St} {H1 : Hp} {E : XK}, σ[0]? = some (some (.ref d.h)) → HouseAt T.f_House T.f_Books H1 d M → EvL (tMeth T.f_House "circles" (spCircles T.f_House T.f_Books) [] E (tVar 0) tNil) σ H1 [] := fun hσ hH1 =>
      el_meth (ev_var hσ) hH1.hh rfl ea_nil fun H4 e4 Q4 q4 _ => ⟨d, M, rfl, hH1.ex e4, fun H' p hp e h => q4 p H' hp e (by rw [hT0] at h; exact h)⟩
    refine q_asgL (xs := []) (el_lcNL (xs := []) (fun _ => true) (fun _ => .non) (circ rfl hH) (by decide) (fun x => rfl) (fun k x Hb eb gx => by cases gx) (fun k x Hb eb gx _ => by cases gx)) fun p1 H1 hp1 e1 h1 => ?_
    have hH1 := hH.ex e1
    refine q_asgX (lc_at (te_methX (ev_var rfl) hH1.hh rfl fun H2 e2 => ?_))
    refine ⟨d, M, rfl, hH1.ex e2, hl, hi, hT.ext (e1.trans e2), fun H3 p2 eN T3 hp2 => ?_⟩
    have hH3 := (hH1.ex e2).exN eN
    have eN3 := (exN_of (e1.trans e2)).trans eN
    refine el_run (el_purses hH3 hl hp2 (fun x => rfl) (fun x => rfl) (fun x => rfl)) fun p3 H4 hp3 e4 h4 => ?_
    have hH4 := hH3.ex e4
    have T4 := T3.ext e4
    have h14 := e4 _ _ (exN_l (p := p1) ((exN_of e2).trans eN) h1)
    refine s_retQ (lst_at (ta_at (te_methX (ev_var rfl) hH4.hh rfl fun H5 e5 => ?_)))
    refine ⟨d, M, rfl, hH4.ex e5, hl, hi, T4.ext e5, fun H6 p5 eN6 T6 hp5 => ?_⟩
    have hH6 := (hH4.ex e5).exN eN6
    have k46 := (exN_of e5).trans eN6
    refine ta_at' (ev_var rfl) fun H7 e7 => ta_at (el_run (circ rfl (hH6.ex e7)) fun p8 H8 hp8 e8 h8 => ta_at' (ev_var rfl) fun H9 e9 => ta_at (te_methX (ev_var rfl) ((hH6.ex e7).ex (e8.trans e9)).hh rfl fun H10 e10 => ?_))
    have e69 := (e7.trans (e8.trans e9)).trans e10
    refine ⟨d, M, rfl, hH6.ex e69, hT0, hl, hi, T6.ext e69, fun H11 p11 eN11 T11 hp11 => ?_⟩
    refine ⟨sz_of (by show 5 ≤ 100000; decide), fun p hp => ?_⟩
    have k611 : ∀ o, LamX.ExtN H6 (upd H11 p o) := fun o => ((exN_of e69).trans eN11).trans (exN_of (Ex.new hp))
    have k8 : ∀ o, LamX.ExtN H8 (upd H11 p o) := fun o => ((exN_of (e9.trans e10)).trans eN11).trans (exN_of (Ex.new hp))
    have kall : ∀ o, LamX.ExtN H (upd H11 p o) := fun o => ((eN3.trans (exN_of e4)).trans k46).trans (k611 o)
    refine q _ (.ref p) (kall _) (T11.ext (Ex.new hp)) ?_
    refine .lst (sq_of upd_same) (.cons (.lst (sq_of (exN_l (k611 _) hp5)) ?_) (.cons (.lst (sq_of (exN_l (k46.trans (k611 _)) h4)) ?_) (.cons (.lst (sq_of (exN_l (k8 _) h8)) .nil) (.cons (.lst (sq_of (exN_l (k46.trans (k611 _)) h14)) .nil) (.cons (.tup (st_of ((Ex.new hp) _ _ hp11)) ?_) .nil)))))
    · unfold BookM.names BookM.ps
      rw [List.map_map, List.map_map]
      exact dpa_of (fun m : Mem => V.str m.nm) (fun m => PyData.str m.nm) _ fun p _ => .str _
    · unfold BookM.purses BookM.ps
      rw [List.map_map, List.map_map]
      exact dpa_of (fun m : Mem => V.int m.coins) (fun m => PyData.int m.coins) _ fun p _ => .int _
    · have : (M.bk.ps.map (·.2)).sum = M.bk.purses.sum := by
        unfold BookM.ps BookM.purses
        rw [List.map_map]
        rfl
      rw [this]
      exact .cons (.int _) (.cons (.int _) (.cons (.int _) (.cons (.int _) (.cons (.int _) .nil))))
end

end Su
namespace Su
open TL
/-! ### the law's own deeds on members -/
def lPs (ps : List (Str × Int)) : MD → List (Str × Int)
  | .enter nm => ps ++ [(nm, 0)]
  | .part nm => ps.filter fun p => decide (p.1 ≠ nm)
  | .bring nm c => ps.map fun p => if p.1 = nm then (p.1, p.2 + c) else p
  | .take nm c => ps.map fun p => if p.1 = nm then (p.1, p.2 + -c) else p
def lC (c : Int) : MD → Int
  | .enter _ => c
  | .part _ => c
  | .bring _ x => c + x
  | .take _ x => c + -x
theorem valV_bk (M : BookM) (nm : Str) : valV (psKv M.ps) (.inr nm) = (M.mem? nm).map fun m => .int m.coins := by
  unfold psKv BookM.ps
  rw [List.map_map]
  exact valV_kv Mem.nm (fun m => .int m.coins) M.mems nm
theorem LBk.setP {H : Hp} {b pd td : Addr} {ps ps' : List (Str × Int)} {c : Int} (h : LBk H b pd td ps c) (nd : (ps'.map (·.1)).Nodup) : LBk (upd H pd (.dK (psKv ps'))) b pd td ps' c :=
  ⟨by
    rw [upd_ne (fun z => by have := h.hb; rw [z, h.hp] at this; cases this)]
    exact h.hb, upd_same, by
    rw [upd_ne h.ne.symm]
    exact h.ht, nd, h.ne⟩
theorem LBk.setC {H : Hp} {b pd td : Addr} {ps : List (Str × Int)} {c c' : Int} (h : LBk H b pd td ps c) : LBk (upd H b (.lst [.ref pd, .ref td, .int c'])) b pd td ps c' :=
  ⟨upd_same, by
    rw [upd_ne (fun z => by have := h.hp; rw [z, h.hb] at this; cases this)]
    exact h.hp, by
    rw [upd_ne (fun z => by have := h.ht; rw [z, h.hb] at this; cases this)]
    exact h.ht, h.nd, h.ne⟩
theorem nd_add {ps : List (Str × Int)} (nd : (ps.map (·.1)).Nodup) (nm : Str) (c : Int) : ((ps.map fun p => if p.1 = nm then (p.1, p.2 + c) else p).map (·.1)).Nodup := by
  rw [List.map_map]
  have : ((fun x : Str × Int => x.1) ∘ fun p : Str × Int => if p.1 = nm then (p.1, p.2 + c) else p) = fun x => x.1 := funext fun p => by
    show (if p.1 = nm then (p.1, p.2 + c) else p).1 = p.1
    by_cases h : p.1 = nm
    · rw [if_pos h]
    · rw [if_neg h]
  rw [this]
  exact nd
section
variable {K : PySem.W.Frag} {σ : L2.St} {H : Hp}
theorem q_skip {t : TT} {tu tz : TS} {D : Ends} (h : EvT t σ H false) (k : ∀ H1, Ex H H1 → tz D σ H1) : tSeq (tIfS t tu tNext) tz D σ H := q_when h (fun hb => by cases hb) fun _ H1 e1 => k H1 e1
theorem q_take {t : TT} {tu tz : TS} {D : Ends} (h : EvT t σ H true) (k : ∀ H1, Ex H H1 → tu { D with nx := tz D } σ H1) : tSeq (tIfS t tu tNext) tz D σ H := q_when h (fun _ H1 e1 => k H1 e1) fun hb => by cases hb
theorem q_forK0 {tl : TE} {j : Nat} {tb tz : TS} {D : Ends} {d : Addr} (hd : H d = some (.dK [])) (h : ∀ od Hb, Hb d = some (.frz od (.dK [])) → (∀ b o, b ≠ d → H b = some o → Hb b = some o) → Ev tl σ Hb (.ref d)) (k : ∀ H1, Ex H H1 → tz D σ H1) :
    tSeq (tLock (tFor (iKeys tl) (gName j) tb)) tz D σ H := by
  refine ⟨d, .dK [], hd, True.intro, fun od => ?_⟩
  have st : ∀ b o, b ≠ d → H b = some o → (upd H d (.frz od (.dK []))) b = some o := fun b o nb hb => by rw [upd_ne nb]; exact hb
  refine h od _ upd_same st _ (Ex.refl _) _ fun H1 e1 => ?_
  have f1 := e1 _ _ upd_same
  refine ⟨d, od, rfl, .inl ⟨[], f1, for_it walk_keys (fun _ σ' H' => σ' = σ ∧ H' = H1) ⟨rfl, rfl⟩ (fun i σ' H' _ p => by rw [p.2]; exact f1) (fun i x σ' Hc H' hi => by cases hi) fun σ' H' p => ?_⟩⟩
  obtain ⟨rfl, rfl⟩ := p
  refine ⟨f1, k _ fun b o hb => ?_⟩
  by_cases nb : b = d
  · rw [nb, upd_same, ← hb, nb]
    exact hd.symm
  · rw [upd_ne nb]
    exact e1 b o (st b o nb hb)
theorem q_daug {td ty tv : TE} {D : Ends} {tz : TS} {d : Addr} {kvs : List (Key × V)} {k : Key} {a c : Int} (h1 : Ev td σ H (.ref d)) (h2 : Ev ty σ H (kV k)) (h3 : Ev tv σ H (.int c)) (hd : H d = some (.dK kvs)) (hv : valV kvs k = some (.int a)) (hl : kvs.length < 100000)
    (n : ∀ H1, Ex H H1 → tz D σ (upd H1 d (.dK (putK kvs k (.int (a + c)))))) : tSeq (sDAug td ty tv rAdd) tz D σ H :=
  h1 H (Ex.refl _) _ fun H1 e1 => h2 H1 e1 _ fun H2 e2 => ⟨d, .int a, rfl, hv ▸ DGet.k ((e1.trans e2) _ _ hd), h3 H2 (e1.trans e2) _ fun H3 e3 => ⟨a, c, rfl, rfl, _, .inl ⟨kvs, k, ((e1.trans e2).trans e3) _ _ hd, rfl, sz_lt hl, rfl⟩, n H3 ((e1.trans e2).trans e3)⟩⟩
end
section
variable {P : Program} {w : World} {K : PySem.W.Frag} {mg : Str → Option Value} {base : Heap}
theorem ok__law_is_name (T : Top K mg) : FnOk P w K mg base CX0 1 T.f__law_is_name T.fd__law_is_name ["_law_word"] spIsName := by
  have nd := sc__law_is_name.nd
  refine T.F__law_is_name.ok sc__law_is_name (fun vs H Q E h => ?_) (fun cdv A outer s H vs Q E hr h => ?_)
  · obtain ⟨z, rfl, _⟩ := h
    rfl
  · obtain ⟨z, rfl, hz, q⟩ := h
    refine ⟨_, (pss_one (ps_ret (pe_and (pe_chain op_le op_le pe_int (pe_callB call_len_str (by rfl) T.m_len PySem.boot_len (pa_cons (pv 0) pa_nil)) pe_int) (pe_one (pe_callB (cr_all rfl) (by rfl) T.m_all (by decide +kernel) (pa_cons (pe_lc (own := [("_law_sign", 1)]) (g := gName 1) (tt := tYes) rfl nd (pi_str (pv 0)) (blkOk_by (own := [("_law_sign", 1)]) (N := Su.N__law_is_name) (sc := defScope s__law_is_name) (by decide +kernel)) (fun _ _ _ _ _ => (pg_name (i := 1) nd rfl (.inl rfl))) (fun _ _ _ _ _ => pts_nil) (fun _ _ _ _ _ => (pe_cmpR op_in_sign (pv 1) pe_str rfl))) pa_nil)))))), ?_⟩
    exact s_ret (ev_andV (chain_le' (a := 1) (b := z.length) (c := 12) ev_c (ev_cb (ea_cons (ev_var rfl) ea_nil) (rc_lenS (by omega))) ev_c) fun _ => ev_allSigns (fun c => decide (c ∈ lettersS.cps.toList)) (ev_var rfl) hz (fun _ => rfl) fun c Hb _ => ev_op (ev_var rfl) ev_c rv_inSign) q
def spLDeed : Sp := fun vs H Q _ => ∃ (b pd td : Addr) (M : BookM) (r : Addr) (m : MD), vs = [.ref b, .ref r] ∧ H r = some (.tup m.row) ∧ LBk H b pd td M.ps M.brought ∧ m.nm.length ≤ 40000 ∧ M.mems.length < 49000 ∧
  (∀ c, m.ref M = some c → ∀ H', Ex H H' → Q (.str c) H') ∧ (m.ref M = none → ∀ H', FrT [b, pd] H H' → LBk H' b pd td (lPs M.ps m) (lC M.brought m) → Q (.str "") H')
theorem ok__law_member_deed (T : Top K mg) : FnOk P w K mg base CX0 2 T.f__law_member_deed T.fd__law_member_deed ["_law_book", "_law_row"] spLDeed := by
  have nd := sc__law_member_deed.nd
  have G__law_is_name : FnOk P w K mg base CX0 1 T.f__law_is_name T.fd__law_is_name ["_law_word"] spIsName := ok__law_is_name T
  refine T.F__law_member_deed.ok sc__law_member_deed (fun vs H Q E h => ?_) (fun cdv A outer s H vs Q E hr h => ?_)
  · obtain ⟨b, pd, td, M, r, m, rfl, _⟩ := h
    rfl
  · obtain ⟨b, pd, td, M, r, m, rfl, hr', hL, hn, hz, qx, q⟩ := h
    refine ⟨_, (pss_cons (ps_par (i := 2) (j := 3) (by rfl) nd rfl rfl (by decide) rfl rfl (pa_cons (pe_ix ix_tup (pv 1) pe_int (fun _ _ => rfl)) (pa_cons (pe_ix ix_tup (pv 1) pe_int (fun _ _ => rfl)) pa_nil)) (by rfl))
      (pss_cons (ps_set (i := 4) nd rfl (.inl rfl) (pe_ix ix_list (pv 0) pe_int (fun _ _ => rfl)))
      (pss_cons (ps_if (pt_cmpR op_eq (pv 2) pe_str (nomark _))
        (pss_cons (ps_if (pt_not (pt_val (pe_call G__law_is_name (hr.mono (by omega)) (by rfl) T.m__law_is_name T.F__law_is_name.kp T.b__law_is_name .nil pass0 (pa_cons (pv 3) pa_nil))))
            (pss_one (ps_ret pe_str))
            pss_nil)
          (pss_cons (ps_if (pt_cmp (pc_din (hu_of hr) (pv 3) (pv 4)))
            (pss_one (ps_ret pe_str))
            pss_nil)
          (pss_cons (ps_dput (hu_of hr) (pv 4) (pv 3) pe_int rfl)
          (pss_one (ps_ret pe_str)))))
        pss_nil)
      (pss_cons (ps_if (pt_cmp (pc_dnotin (hu_of hr) (pv 3) (pv 4)))
        (pss_one (ps_ret pe_str))
        pss_nil)
      (pss_cons (ps_if (pt_cmpR op_eq (pv 2) pe_str (nomark _))
        (pss_cons (ps_lock (ps_for PassesOwn.never rfl (pi_keys (pe_ix ix_list (pv 0) pe_int (fun _ _ => rfl))) (pg_name (i := 5) nd rfl (.inl rfl))
            (pss_cons (ps_set (i := 6) nd rfl (.inl rfl) (pe_dget (hu_of hr) (pe_ix ix_list (pv 0) pe_int (fun _ _ => rfl)) (pv 5) (fun _ _ => rfl)))
              (pss_one (ps_if (PW.pt (pw_and (pt_cmpR op_in_seq (pv 3) (pe_ix ix_list (pv 6) pe_int (fun _ _ => rfl)) rfl) (pw_and1 (pt_cmpR op_le (pe_ix ix_list (pe_ix ix_list (pv 6) pe_int (fun _ _ => rfl)) pe_int (fun _ _ => rfl)) (pe_ix ix_list (pe_ix ix_list (pv 6) pe_int (fun _ _ => rfl)) pe_int (fun _ _ => rfl)) (nomark _)))))
                (pss_one (ps_ret pe_str))
                pss_nil)))))
          (pss_cons (ps_if (pt_cmpR op_gt (pe_dget (hu_of hr) (pv 4) (pv 3) (fun _ _ => rfl)) pe_int (nomark _))
            (pss_one (ps_ret pe_str))
            pss_nil)
          (pss_cons (ps_expr (pe_dpop1 (pv 4) (pv 3) ⟨rfl, rfl, rfl, rfl⟩))
          (pss_one (ps_ret pe_str)))))
        pss_nil)
      (pss_cons (ps_if (pt_not (pt_chain op_le op_le pe_int (pe_ix ix_tup (pv 1) pe_int (fun _ _ => rfl)) pe_int))
        (pss_one (ps_ret pe_str))
        pss_nil)
      (pss_cons (ps_if (PW.pt (pw_and (pt_cmpR op_eq (pv 2) pe_str (nomark _)) (pw_and1 (pt_cmpR op_lt (pe_dget (hu_of hr) (pv 4) (pv 3) (fun _ _ => rfl)) (pe_ix ix_tup (pv 1) pe_int (fun _ _ => rfl)) (nomark _)))))
        (pss_one (ps_ret pe_str))
        pss_nil)
      (pss_cons (ps_set (i := 7) nd rfl (.inl rfl) (pe_ix ix_tup (pv 1) pe_int (fun _ _ => rfl)))
      (pss_cons (ps_if (pt_cmpR op_eq (pv 2) pe_str (nomark _))
        (pss_one (ps_set (i := 7) nd rfl (.inl rfl) (pe_un un_neg (pe_ix ix_tup (pv 1) pe_int (fun _ _ => rfl)))))
        pss_nil)
      (pss_cons (ps_daug (hu_of hr) (pv 4) (pv 3) (pv 7) in_add (fun _ _ _ => rfl))
      (pss_cons (ps_augS (pv 0) pe_int get_list (pv 7) ip_add set_list)
      (pss_one (ps_ret pe_str))))))))))))), ?_⟩
    have nbd : ∀ {x kvs}, H x = some (.dK kvs) → b ≠ x := fun {x kvs} hx z => by
      have hb := hL.hb
      rw [z, hx] at hb
      cases hb
    have lps : (psKv M.ps).length < 50000 := by unfold psKv BookM.ps; rw [List.length_map, List.length_map]; omega
    have a0 : atI m.row 0 = some (.str m.word) := by rw [m.row_eq]; exact atI_nat (j := 0) rfl
    have a1 : atI m.row 1 = some (.str m.nm) := by cases m <;> exact atI_nat (j := 1) rfl
    refine q_par (ea_cons (ev_op (ev_var rfl) ev_c (rv_ixT (st_of hr') a0)) (ea_cons (ev_op (ev_var rfl) ev_c (rv_ixT (st_of hr') a1)) ea_nil)) fun H1 e1 => ?_
    refine q_asg (ev_op (ev_var rfl) ev_c (rv_ixL (sq_of (e1 _ _ hL.hb)) (atI_nat (j := 0) rfl))) fun H2 e2 => ?_
    have e12 := e1.trans e2
    have hL2 := hL.ex e12
    have isW : ∀ {σ : L2.St} {H' : Hp} {z : Str} {c : Bool}, σ[2]? = some (some (.str m.word)) → decide (m.word = z) = c → EvT (tTest (tOp rEq (tVar 2) (tC (.str z)))) σ H' c := fun hσ hc => et_is (et_test (ev_op (ev_var hσ) ev_c (rv_eq rfl))) (by rw [str_eq]; exact hc)
    cases m with
    | enter nm =>
      refine q_take (isW rfl (by show decide ((Str.ofString "enter") = _) = _; decide +kernel)) fun H3 e3 => ?_
      have hL3 := hL2.ex e3
      have e03 := e12.trans e3
      refine q_when (b := !isNameB nm) (et_not (et_B (ev_call (ea_cons (ev_var rfl) ea_nil) (spV_isName hn)))) (fun hb H4 e4 => ?_) (fun hb H4 e4 => ?_)
      · refine s_ret ev_c fun H5 e5 => qx _ ?_ H5 (e03.trans (e4.trans e5))
        show refEnter M nm = _
        unfold refEnter
        rw [if_pos (by simpa using hb)]
      have hnm : isNameB nm = true := by simpa using hb
      have hL4 := hL3.ex e4
      refine q_when (b := (M.mem? nm).isSome) (et_B (ev_is (ev_din (k := .inr nm) (ev_var rfl) (ev_var rfl) hL4.hp) (by rw [valV_bk, Option.isSome_map]))) (fun hb2 H5 e5 => ?_) (fun hb2 H5 e5 => ?_)
      · refine s_ret ev_c fun H6 e6 => qx _ ?_ H6 (e03.trans (e4.trans (e5.trans e6)))
        show refEnter M nm = _
        unfold refEnter
        rw [if_neg (by rw [hnm]; decide), if_pos hb2]
      have hno : M.mem? nm = none := by simpa using hb2
      have vn : valV (psKv M.ps) (.inr nm) = none := by rw [valV_bk, hno]; rfl
      refine q_dput (k := .inr nm) ev_c (ev_var rfl) (ev_var rfl) (hL4.ex e5).hp (by omega) fun H6 e6 => ?_
      rw [putK_new vn]
      have hLa := ((hL4.ex e5).ex e6).setP (ps' := M.ps ++ [(nm, 0)]) (by
        rw [List.map_append, List.nodup_append]
        refine ⟨hL.nd, by simp, fun a ha b hb z => ?_⟩
        simp only [List.map_cons, List.map_nil, List.mem_singleton] at hb
        subst hb
        subst z
        refine BookM.mem?_none hno ?_
        unfold BookM.ps at ha
        rw [List.map_map] at ha
        exact ha)
      have hps : psKv (M.ps ++ [(nm, 0)]) = psKv M.ps ++ [(.inr nm, .int 0)] := by unfold psKv; rw [List.map_append]; rfl
      rw [hps] at hLa
      refine s_ret ev_c fun H7 e7 => q (by
        show refEnter M nm = none
        unfold refEnter
        rw [if_neg (by rw [hnm]; decide), if_neg (by rw [hno]; decide)]) H7 ?_ (hLa.ex e7)
      exact ((FrT.ex (e03.trans (e4.trans (e5.trans e6)))).upd (by simp)).trans (FrT.ex e7)
    | part nm =>
      refine q_skip (isW rfl (by show decide ((Str.ofString "part") = _) = _; decide +kernel)) fun H3 e3 => ?_
      have hL3 := hL2.ex e3
      have e03 := e12.trans e3
      refine q_when (b := !(M.mem? nm).isSome) (et_B (ev_is (ev_dnin (k := .inr nm) (ev_var rfl) (ev_var rfl) hL3.hp) (by rw [valV_bk, Option.isSome_map]))) (fun hb H4 e4 => ?_) (fun hb H4 e4 => ?_)
      · refine s_ret ev_c fun H5 e5 => qx _ ?_ H5 (e03.trans (e4.trans e5))
        show refPart M nm = _
        unfold refPart
        cases hm : M.mem? nm with
        | none => rfl
        | some x => rw [hm] at hb; cases hb
      obtain ⟨x, hm⟩ : ∃ x, M.mem? nm = some x := by
        cases hm : M.mem? nm with
        | none => rw [hm] at hb; cases hb
        | some x => exact ⟨x, rfl⟩
      have e04 := e03.trans e4
      refine q_take (isW rfl (by show decide ((Str.ofString "part") = _) = _; decide +kernel)) fun H5 e5 => ?_
      have hL5 := hL.ex (e04.trans e5)
      refine q_forK0 hL5.ht (fun od Hb hf st => ev_op (ev_var rfl) ev_c (rv_ixL (sq_of (st _ _ (fun z => by have := hL5.ht; rw [← z, hL5.hb] at this; cases this) hL5.hb)) (atI_nat (j := 1) rfl))) fun H6 e6 => ?_
      have e06 := (e04.trans e5).trans e6
      have hL6 := hL.ex e06
      have vm : valV (psKv M.ps) (.inr nm) = some (.int x.coins) := by rw [valV_bk, hm]; rfl
      refine q_when (b := decide (0 < x.coins)) (et_test (ev_op (ev_dget (k := .inr nm) (ev_var rfl) (ev_var rfl) hL6.hp vm) ev_c rv_I0)) (fun hb2 H7 e7 => ?_) (fun hb2 H7 e7 => ?_)
      · refine s_ret ev_c fun H8 e8 => qx _ ?_ H8 (e06.trans (e7.trans e8))
        show refPart M nm = _
        unfold refPart
        rw [hm]
        dsimp only
        rw [if_pos (of_decide_eq_true hb2)]
      have hL7 := hL6.ex e7
      refine q_dropX ⟨_, rfl, pd, rfl, .inl ⟨_, .inl hL7.hp⟩, _, rfl, _, .inr nm, _, hL7.hp, rfl, vm, ?_⟩
      have hLa := hL7.setP (ps' := M.ps.filter fun p => decide (p.1 ≠ nm)) (List.Nodup.sublist (List.Sublist.map _ List.filter_sublist) hL.nd)
      have hdr : dropK (psKv M.ps) (.inr nm) = psKv (M.ps.filter fun p => decide (p.1 ≠ nm)) := dropK_kv Prod.fst (fun p : Str × Int => V.int p.2) M.ps nm
      rw [hdr]
      refine s_ret ev_c fun H8 e8 => q (by
        show refPart M nm = none
        unfold refPart
        rw [hm]
        dsimp only
        rw [if_neg (of_decide_eq_false hb2)]) H8 ?_ (hLa.ex e8)
      exact ((FrT.ex (e06.trans e7)).upd (by simp)).trans (FrT.ex e8)
    | bring nm c =>
      refine q_skip (isW rfl (by show decide ((Str.ofString "bring") = _) = _; decide +kernel)) fun H3 e3 => ?_
      have hL3 := hL2.ex e3
      have e03 := e12.trans e3
      refine q_when (b := !(M.mem? nm).isSome) (et_B (ev_is (ev_dnin (k := .inr nm) (ev_var rfl) (ev_var rfl) hL3.hp) (by rw [valV_bk, Option.isSome_map]))) (fun hb H4 e4 => ?_) (fun hb H4 e4 => ?_)
      · refine s_ret ev_c fun H5 e5 => qx _ ?_ H5 (e03.trans (e4.trans e5))
        show refBring M nm c = _
        unfold refBring
        cases hm : M.mem? nm with
        | none => rfl
        | some x => rw [hm] at hb; cases hb
      obtain ⟨x, hm⟩ : ∃ x, M.mem? nm = some x := by
        cases hm : M.mem? nm with
        | none => rw [hm] at hb; cases hb
        | some x => exact ⟨x, rfl⟩
      have e04 := e03.trans e4
      refine q_skip (isW rfl (by show decide ((Str.ofString "bring") = _) = _; decide +kernel)) fun H5 e5 => ?_
      have e05 := e04.trans e5
      have a2 : ∀ {H' : Hp} {σ : L2.St}, Ex H H' → σ[1]? = some (some (.ref r)) → Ev (tOp (rIxT K) (tVar 1) (tC (.int 2))) σ H' (.int c) := fun e hσ => ev_op (ev_var hσ) ev_c (rv_ixT (st_of (e _ _ hr')) (atI_nat (j := 2) rfl))
      refine q_when (b := !(decide (1 ≤ c) && decide (c ≤ 1000000000))) (et_not (chain_le ev_c (a2 e05 rfl) ev_c)) (fun hb H6 e6 => ?_) (fun hb H6 e6 => ?_)
      · refine s_ret ev_c fun H7 e7 => qx _ ?_ H7 (e05.trans (e6.trans e7))
        show refBring M nm c = _
        unfold refBring
        rw [hm]
        dsimp only
        rw [if_neg (fun z : inCoins c => by rw [decide_eq_true z.1, decide_eq_true z.2] at hb; cases hb)]
      have hin : inCoins c := by
        by_cases h1 : 1 ≤ c
        · by_cases h2 : c ≤ 1000000000
          · exact ⟨h1, h2⟩
          · rw [decide_eq_false h2, Bool.and_false] at hb; cases hb
        · rw [decide_eq_false h1] at hb; cases hb
      have e06 := e05.trans e6
      have hL6 := hL.ex e06
      have vm : valV (psKv M.ps) (.inr nm) = some (.int x.coins) := by rw [valV_bk, hm]; rfl
      refine q_skip (et_is (et_and (a := false) (b := false) (isW rfl (by show decide ((Str.ofString "bring") = _) = _; decide +kernel)) fun z => by cases z) rfl) fun H7 e7 => ?_
      have hrn : refBring M nm c = none := by
        unfold refBring
        rw [hm]
        dsimp only
        rw [if_pos hin]
      have e07 := e06.trans e7
      refine q_asg (a2 e07 rfl) fun H8 e8 => ?_
      have e08 := e07.trans e8
      refine q_skip (isW rfl (by show decide ((Str.ofString "bring") = _) = _; decide +kernel)) fun H10 e10 => ?_
      have e010 := e08.trans e10
      have hL10 := hL.ex e010
      refine q_daug (k := .inr nm) (ev_var rfl) (ev_var rfl) (ev_var rfl) hL10.hp vm (by omega) fun H11 e11 => ?_
      have hL11 := hL10.ex e11
      have hput : putK (psKv M.ps) (.inr nm) (.int (x.coins + c)) = psKv (lPs M.ps (.bring nm c)) := by
        unfold psKv
        rw [putK_old Prod.fst (fun p : Str × Int => V.int p.2) M.ps (nm := nm) (by
          have h := congrArg Option.isSome vm
          unfold psKv at h
          rw [valV_kv Prod.fst (fun p : Str × Int => V.int p.2) M.ps nm, Option.isSome_map] at h
          exact h)]
        show _ = List.map _ (M.ps.map _)
        rw [List.map_map]
        apply List.map_congr_left
        intro p hp
        show (if p.1 = nm then _ else _) = ((Sum.inr (if p.1 = nm then _ else p).1 : Key), V.int (if p.1 = nm then _ else p).2)
        by_cases h : p.1 = nm
        · rw [if_pos h, if_pos h]
          have : p.2 = x.coins := by
            obtain ⟨i, hi⟩ := List.mem_iff_getElem?.mp hp
            have := valV_ps hL.nd hi
            rw [h, vm] at this
            exact (V.int.inj (Option.some.inj this)).symm
          rw [this]
        · rw [if_neg h, if_neg h]
      rw [hput]
      have hLa := hL11.setP (ps' := lPs M.ps (.bring nm c)) (nd_add hL.nd nm (c))
      refine q_augL (f := fun a b => a + b) (j := 2) (a := M.brought) (b := c) hLa.hb (ev_var rfl) ev_c rfl rfl (ev_var rfl) fun H12 e12' => ?_
      have hLb := (hLa.ex e12').setC (c' := M.brought + c)
      refine s_ret ev_c fun H13 e13 => q hrn H13 ?_ (hLb.ex e13)
      exact ((((FrT.ex (e010.trans e11)).upd (by simp)).trans (FrT.ex e12')).upd (by simp)).trans (FrT.ex e13)
    | take nm c =>
      refine q_skip (isW rfl (by show decide ((Str.ofString "take") = _) = _; decide +kernel)) fun H3 e3 => ?_
      have hL3 := hL2.ex e3
      have e03 := e12.trans e3
      refine q_when (b := !(M.mem? nm).isSome) (et_B (ev_is (ev_dnin (k := .inr nm) (ev_var rfl) (ev_var rfl) hL3.hp) (by rw [valV_bk, Option.isSome_map]))) (fun hb H4 e4 => ?_) (fun hb H4 e4 => ?_)
      · refine s_ret ev_c fun H5 e5 => qx _ ?_ H5 (e03.trans (e4.trans e5))
        show refTake M nm c = _
        unfold refTake
        cases hm : M.mem? nm with
        | none => rfl
        | some x => rw [hm] at hb; cases hb
      obtain ⟨x, hm⟩ : ∃ x, M.mem? nm = some x := by
        cases hm : M.mem? nm with
        | none => rw [hm] at hb; cases hb
        | some x => exact ⟨x, rfl⟩
      have e04 := e03.trans e4
      refine q_skip (isW rfl (by show decide ((Str.ofString "take") = _) = _; decide +kernel)) fun H5 e5 => ?_
      have e05 := e04.trans e5
      have a2 : ∀ {H' : Hp} {σ : L2.St}, Ex H H' → σ[1]? = some (some (.ref r)) → Ev (tOp (rIxT K) (tVar 1) (tC (.int 2))) σ H' (.int c) := fun e hσ => ev_op (ev_var hσ) ev_c (rv_ixT (st_of (e _ _ hr')) (atI_nat (j := 2) rfl))
      refine q_when (b := !(decide (1 ≤ c) && decide (c ≤ 1000000000))) (et_not (chain_le ev_c (a2 e05 rfl) ev_c)) (fun hb H6 e6 => ?_) (fun hb H6 e6 => ?_)
      · refine s_ret ev_c fun H7 e7 => qx _ ?_ H7 (e05.trans (e6.trans e7))
        show refTake M nm c = _
        unfold refTake
        rw [hm]
        dsimp only
        rw [if_neg (fun z : inCoins c => by rw [decide_eq_true z.1, decide_eq_true z.2] at hb; cases hb)]
      have hin : inCoins c := by
        by_cases h1 : 1 ≤ c
        · by_cases h2 : c ≤ 1000000000
          · exact ⟨h1, h2⟩
          · rw [decide_eq_false h2, Bool.and_false] at hb; cases hb
        · rw [decide_eq_false h1] at hb; cases hb
      have e06 := e05.trans e6
      have hL6 := hL.ex e06
      have vm : valV (psKv M.ps) (.inr nm) = some (.int x.coins) := by rw [valV_bk, hm]; rfl
      refine q_when (b := true && decide (x.coins < c)) (et_and (isW rfl (by show decide ((Str.ofString "take") = _) = _; decide +kernel)) fun _ => et_test (ev_op (ev_dget (k := .inr nm) (ev_var rfl) (ev_var rfl) hL6.hp vm) (a2 e06 rfl) rv_I0)) (fun hb2 H7 e7 => ?_) (fun hb2 H7 e7 => ?_)
      · refine s_ret ev_c fun H8 e8 => qx _ ?_ H8 (e06.trans (e7.trans e8))
        show refTake M nm c = _
        unfold refTake
        rw [hm]
        dsimp only
        rw [if_pos hin, if_pos (of_decide_eq_true hb2)]
      have hrn : refTake M nm c = none := by
        unfold refTake
        rw [hm]
        dsimp only
        rw [if_pos hin, if_neg (of_decide_eq_false hb2)]
      have e07 := e06.trans e7
      refine q_asg (a2 e07 rfl) fun H8 e8 => ?_
      have e08 := e07.trans e8
      refine q_take (isW rfl (by show decide ((Str.ofString "take") = _) = _; decide +kernel)) fun H9 e9 => ?_
      refine s_asg (ev_un (z := .int (-c)) (a2 (e08.trans e9) rfl) fun H' _ _ q => ⟨c, rfl, q H' (Ex.refl H')⟩) fun H10 e10 => ?_
      have e010 := e08.trans (e9.trans e10)
      have hL10 := hL.ex e010
      refine q_daug (k := .inr nm) (ev_var rfl) (ev_var rfl) (ev_var rfl) hL10.hp vm (by omega) fun H11 e11 => ?_
      have hL11 := hL10.ex e11
      have hput : putK (psKv M.ps) (.inr nm) (.int (x.coins + -c)) = psKv (lPs M.ps (.take nm c)) := by
        unfold psKv
        rw [putK_old Prod.fst (fun p : Str × Int => V.int p.2) M.ps (nm := nm) (by
          have h := congrArg Option.isSome vm
          unfold psKv at h
          rw [valV_kv Prod.fst (fun p : Str × Int => V.int p.2) M.ps nm, Option.isSome_map] at h
          exact h)]
        show _ = List.map _ (M.ps.map _)
        rw [List.map_map]
        apply List.map_congr_left
        intro p hp
        show (if p.1 = nm then _ else _) = ((Sum.inr (if p.1 = nm then _ else p).1 : Key), V.int (if p.1 = nm then _ else p).2)
        by_cases h : p.1 = nm
        · rw [if_pos h, if_pos h]
          have : p.2 = x.coins := by
            obtain ⟨i, hi⟩ := List.mem_iff_getElem?.mp hp
            have := valV_ps hL.nd hi
            rw [h, vm] at this
            exact (V.int.inj (Option.some.inj this)).symm
          rw [this]
        · rw [if_neg h, if_neg h]
      rw [hput]
      have hLa := hL11.setP (ps' := lPs M.ps (.take nm c)) (nd_add hL.nd nm (-c))
      refine q_augL (f := fun a b => a + b) (j := 2) (a := M.brought) (b := -c) hLa.hb (ev_var rfl) ev_c rfl rfl (ev_var rfl) fun H12 e12' => ?_
      have hLb := (hLa.ex e12').setC (c' := M.brought + -c)
      refine s_ret ev_c fun H13 e13 => q hrn H13 ?_ (hLb.ex e13)
      exact ((((FrT.ex (e010.trans e11)).upd (by simp)).trans (FrT.ex e12')).upd (by simp)).trans (FrT.ex e13)
end

end Su
namespace Su
open TL
/-! ### the deed tried; who is missing; names drawn -/
theorem ref_six {M : BookM} {m : MD} {c : Str} (h : m.ref M = some c) : c = "BadName" ∨ c = "BadNumber" ∨ c = "Known" ∨ c = "Unknown" ∨ c = "Holding" ∨ c = "Short" := by
  cases m with
  | enter nm =>
    change refEnter M nm = some c at h
    unfold refEnter at h
    split at h
    · cases h; exact .inl rfl
    · split at h
      · cases h; exact .inr (.inr (.inl rfl))
      · cases h
  | part nm =>
    change refPart M nm = some c at h
    unfold refPart at h
    split at h
    · cases h; exact .inr (.inr (.inr (.inl rfl)))
    · split at h
      · cases h; exact .inr (.inr (.inr (.inr (.inl rfl))))
      · cases h
  | bring nm x =>
    change refBring M nm x = some c at h
    unfold refBring at h
    split at h
    · cases h; exact .inr (.inr (.inr (.inl rfl)))
    · split at h
      · cases h
      · cases h; exact .inr (.inl rfl)
  | take nm x =>
    change refTake M nm x = some c at h
    unfold refTake at h
    split at h
    · cases h; exact .inr (.inr (.inr (.inl rfl)))
    · split at h
      · split at h
        · cases h; exact .inr (.inr (.inr (.inr (.inr rfl))))
        · cases h
      · cases h; exact .inr (.inl rfl)
theorem HouseAt.mut_old {CH CB : Addr} {H : Hp} {d : HouseD} {M : HouseM} (h : HouseAt CH CB H d M) {x : Addr} (hx : x ∈ d.mut) : ∃ o, H x = some o := by
  simp only [HouseD.mut, BookD.mut, List.mem_cons, List.not_mem_nil, or_false] at hx
  rcases hx with rfl | rfl | rfl | rfl | rfl | rfl | rfl
  · exact ⟨_, h.hh⟩
  · exact ⟨_, h.hk⟩
  · exact ⟨_, h.hu⟩
  · exact ⟨_, h.hb.hms⟩
  · exact ⟨_, h.hb.hts⟩
  · exact ⟨_, h.hb.hss⟩
  · exact ⟨_, h.hb.htr⟩
section
variable {K : PySem.W.Frag} {σ : L2.St} {H : Hp}
theorem el_cat2 {ta tb : TE} {a b : Addr} {xs ys : List V} (ha : Ev ta σ H (.ref a)) (hx : H a = some (.lst xs)) (hb : Ev tb σ H (.ref b)) (hy : H b = some (.lst ys)) (hz : xs.length + ys.length ≤ 100000) : EvL (tOp rCat ta tb) σ H (xs ++ ys) := fun H1 e Q q =>
  ha H1 e _ fun H2 e2 => hb H2 (e.trans e2) _ fun H3 e3 => ⟨a, b, xs, ys, rfl, rfl, ((e.trans e2).trans e3) _ _ hx, ((e.trans e2).trans e3) _ _ hy, sz_of hz, fun p hp => q p _ (fresh_back (e2.trans e3) hp) ((e2.trans e3).trans (Ex.new hp)) upd_same⟩
theorem el_catB {ta tb : TE} {b : Addr} {xs ys : List V} (ha : EvL ta σ H xs) (hb : Ev tb σ H (.ref b)) (hy : H b = some (.lst ys)) (hz : xs.length + ys.length ≤ 100000) : EvL (tOp rCat ta tb) σ H (xs ++ ys) := fun H1 e Q q =>
  ha H1 e _ fun a H2 ha2 e2 h2 => hb H2 (e.trans e2) _ fun H3 e3 => ⟨a, b, xs, ys, rfl, rfl, e3 _ _ h2, ((e.trans e2).trans e3) _ _ hy, sz_of hz, fun p hp => q p _ (fresh_back (e2.trans e3) hp) ((e2.trans e3).trans (Ex.new hp)) upd_same⟩
end
section
variable {P : Program} {w : World} {K : PySem.W.Frag} {mg : Str → Option Value} {base : Heap}
def KI (T : Top K mg) (c : Str) : Prop := PySem.W.subIn K (.ref (T.cls c)) (.ref T.f_SusuError) = some true ∧ ExcC K (T.cls c) ∧ ∃ b0 b1 b2 b3 b4 b5 b6 b7 b8 b9 b10 b11 b12 b13 b14 b15 : Bool, (marksOf c).map V.bl = [.bl b0, .bl b1, .bl b2, .bl b3, .bl b4, .bl b5, .bl b6, .bl b7, .bl b8, .bl b9, .bl b10, .bl b11, .bl b12, .bl b13, .bl b14, .bl b15] ∧ PySem.W.kitOne K (.ref (T.cls c)) (.ref T.f_BadName) = some b0 ∧ PySem.W.kitOne K (.ref (T.cls c)) (.ref T.f_BadNumber) = some b1 ∧ PySem.W.kitOne K (.ref (T.cls c)) (.ref T.f_Known) = some b2 ∧ PySem.W.kitOne K (.ref (T.cls c)) (.ref T.f_Unknown) = some b3 ∧ PySem.W.kitOne K (.ref (T.cls c)) (.ref T.f_Twice) = some b4 ∧ PySem.W.kitOne K (.ref (T.cls c)) (.ref T.f_Seated) = some b5 ∧ PySem.W.kitOne K (.ref (T.cls c)) (.ref T.f_Holding) = some b6 ∧ PySem.W.kitOne K (.ref (T.cls c)) (.ref T.f_Short) = some b7 ∧ PySem.W.kitOne K (.ref (T.cls c)) (.ref T.f_NoSeat) = some b8 ∧ PySem.W.kitOne K (.ref (T.cls c)) (.ref T.f_Ended) = some b9 ∧ PySem.W.kitOne K (.ref (T.cls c)) (.ref T.f_Fell) = some b10 ∧ PySem.W.kitOne K (.ref (T.cls c)) (.ref T.f_Paid) = some b11 ∧ PySem.W.kitOne K (.ref (T.cls c)) (.ref T.f_NoBids) = some b12 ∧ PySem.W.kitOne K (.ref (T.cls c)) (.ref T.f_NotWaiting) = some b13 ∧ PySem.W.kitOne K (.ref (T.cls c)) (.ref T.f_Uncovered) = some b14 ∧ PySem.W.kitOne K (.ref (T.cls c)) (.ref T.f_NoOrder) = some b15
theorem ki_BadName (T : Top K mg) : KI T "BadName" := by
  unfold KI
  rw [T.cls_BadName]
  exact ⟨T.su_BadName_SusuError, T.e_BadName, true, false, false, false, false, false, false, false, false, false, false, false, false, false, false, false, by
    unfold marksOf
    rw [if_neg (by decide +kernel)]
    have : (names16.map fun n => decide (n = ("BadName" : Str))) = [true, false, false, false, false, false, false, false, false, false, false, false, false, false, false, false] := by decide +kernel
    rw [this]
    rfl, T.ki_BadName_BadName, T.ki_BadName_BadNumber, T.ki_BadName_Known, T.ki_BadName_Unknown, T.ki_BadName_Twice, T.ki_BadName_Seated, T.ki_BadName_Holding, T.ki_BadName_Short, T.ki_BadName_NoSeat, T.ki_BadName_Ended, T.ki_BadName_Fell, T.ki_BadName_Paid, T.ki_BadName_NoBids, T.ki_BadName_NotWaiting, T.ki_BadName_Uncovered, T.ki_BadName_NoOrder⟩
theorem ki_BadNumber (T : Top K mg) : KI T "BadNumber" := by
  unfold KI
  rw [T.cls_BadNumber]
  exact ⟨T.su_BadNumber_SusuError, T.e_BadNumber, false, true, false, false, false, false, false, false, false, false, false, false, false, false, false, false, by
    unfold marksOf
    rw [if_neg (by decide +kernel)]
    have : (names16.map fun n => decide (n = ("BadNumber" : Str))) = [false, true, false, false, false, false, false, false, false, false, false, false, false, false, false, false] := by decide +kernel
    rw [this]
    rfl, T.ki_BadNumber_BadName, T.ki_BadNumber_BadNumber, T.ki_BadNumber_Known, T.ki_BadNumber_Unknown, T.ki_BadNumber_Twice, T.ki_BadNumber_Seated, T.ki_BadNumber_Holding, T.ki_BadNumber_Short, T.ki_BadNumber_NoSeat, T.ki_BadNumber_Ended, T.ki_BadNumber_Fell, T.ki_BadNumber_Paid, T.ki_BadNumber_NoBids, T.ki_BadNumber_NotWaiting, T.ki_BadNumber_Uncovered, T.ki_BadNumber_NoOrder⟩
theorem ki_Known (T : Top K mg) : KI T "Known" := by
  unfold KI
  rw [T.cls_Known]
  exact ⟨T.su_Known_SusuError, T.e_Known, false, false, true, false, false, false, false, false, false, false, false, false, false, false, false, false, by
    unfold marksOf
    rw [if_neg (by decide +kernel)]
    have : (names16.map fun n => decide (n = ("Known" : Str))) = [false, false, true, false, false, false, false, false, false, false, false, false, false, false, false, false] := by decide +kernel
    rw [this]
    rfl, T.ki_Known_BadName, T.ki_Known_BadNumber, T.ki_Known_Known, T.ki_Known_Unknown, T.ki_Known_Twice, T.ki_Known_Seated, T.ki_Known_Holding, T.ki_Known_Short, T.ki_Known_NoSeat, T.ki_Known_Ended, T.ki_Known_Fell, T.ki_Known_Paid, T.ki_Known_NoBids, T.ki_Known_NotWaiting, T.ki_Known_Uncovered, T.ki_Known_NoOrder⟩
theorem ki_Unknown (T : Top K mg) : KI T "Unknown" := by
  unfold KI
  rw [T.cls_Unknown]
  exact ⟨T.su_Unknown_SusuError, T.e_Unknown, false, false, false, true, false, false, false, false, false, false, false, false, false, false, false, false, by
    unfold marksOf
    rw [if_neg (by decide +kernel)]
    have : (names16.map fun n => decide (n = ("Unknown" : Str))) = [false, false, false, true, false, false, false, false, false, false, false, false, false, false, false, false] := by decide +kernel
    rw [this]
    rfl, T.ki_Unknown_BadName, T.ki_Unknown_BadNumber, T.ki_Unknown_Known, T.ki_Unknown_Unknown, T.ki_Unknown_Twice, T.ki_Unknown_Seated, T.ki_Unknown_Holding, T.ki_Unknown_Short, T.ki_Unknown_NoSeat, T.ki_Unknown_Ended, T.ki_Unknown_Fell, T.ki_Unknown_Paid, T.ki_Unknown_NoBids, T.ki_Unknown_NotWaiting, T.ki_Unknown_Uncovered, T.ki_Unknown_NoOrder⟩
theorem ki_Holding (T : Top K mg) : KI T "Holding" := by
  unfold KI
  rw [T.cls_Holding]
  exact ⟨T.su_Holding_SusuError, T.e_Holding, false, false, false, false, false, false, true, false, false, false, false, false, false, false, false, false, by
    unfold marksOf
    rw [if_neg (by decide +kernel)]
    have : (names16.map fun n => decide (n = ("Holding" : Str))) = [false, false, false, false, false, false, true, false, false, false, false, false, false, false, false, false] := by decide +kernel
    rw [this]
    rfl, T.ki_Holding_BadName, T.ki_Holding_BadNumber, T.ki_Holding_Known, T.ki_Holding_Unknown, T.ki_Holding_Twice, T.ki_Holding_Seated, T.ki_Holding_Holding, T.ki_Holding_Short, T.ki_Holding_NoSeat, T.ki_Holding_Ended, T.ki_Holding_Fell, T.ki_Holding_Paid, T.ki_Holding_NoBids, T.ki_Holding_NotWaiting, T.ki_Holding_Uncovered, T.ki_Holding_NoOrder⟩
theorem ki_Short (T : Top K mg) : KI T "Short" := by
  unfold KI
  rw [T.cls_Short]
  exact ⟨T.su_Short_SusuError, T.e_Short, false, false, false, false, false, false, false, true, false, false, false, false, false, false, false, false, by
    unfold marksOf
    rw [if_neg (by decide +kernel)]
    have : (names16.map fun n => decide (n = ("Short" : Str))) = [false, false, false, false, false, false, false, true, false, false, false, false, false, false, false, false] := by decide +kernel
    rw [this]
    rfl, T.ki_Short_BadName, T.ki_Short_BadNumber, T.ki_Short_Known, T.ki_Short_Unknown, T.ki_Short_Twice, T.ki_Short_Seated, T.ki_Short_Holding, T.ki_Short_Short, T.ki_Short_NoSeat, T.ki_Short_Ended, T.ki_Short_Fell, T.ki_Short_Paid, T.ki_Short_NoBids, T.ki_Short_NotWaiting, T.ki_Short_Uncovered, T.ki_Short_NoOrder⟩
theorem ki_of (T : Top K mg) {M : BookM} {m : MD} {c : Str} (h : m.ref M = some c) : KI T c := by
  rcases ref_six h with rfl | rfl | rfl | rfl | rfl | rfl
  · exact ki_BadName T
  · exact ki_BadNumber T
  · exact ki_Known T
  · exact ki_Unknown T
  · exact ki_Holding T
  · exact ki_Short T
def spNamed : Sp := fun vs H Q _ => ∃ (l : Addr) (ws : List Str) (raw : Int), vs = [.ref l, .int raw] ∧ H l = some (.lst (ws.map V.str)) ∧ ws.length = 4 ∧ (∀ z ∈ ws, z.length ≤ 12) ∧ ∀ nm H', nm.length ≤ 40000 → Ex H H' → Q (.str nm) H'
theorem ok__law_named (T : Top K mg) : FnOk P w K mg base CX0 1 T.f__law_named T.fd__law_named ["_law_people", "_law_raw"] spNamed := by
  have nd := sc__law_named.nd
  refine T.F__law_named.ok sc__law_named (fun vs H Q E h => ?_) (fun cdv A outer s H vs Q E hr h => ?_)
  · obtain ⟨l, ws, raw, rfl, _⟩ := h
    rfl
  · obtain ⟨l, ws, raw, rfl, hl, hn, hz, q⟩ := h
    refine ⟨_, (pss_cons (ps_set (i := 2) nd rfl (.inl rfl) (pe_lst (pa_cons pe_str (pa_cons pe_str (pa_cons pe_str (pa_cons pe_str pa_nil))))))
      (pss_one (ps_ret (pe_ix ix_list (pe_op op_cat (pe_op op_cat (pv 0) (pv 0)) (pv 2)) (pe_op op_mod (pv 1) pe_int) (fun _ _ => rfl))))), ?_⟩
    refine q_asgL (xs := (["", "abcdefghijklm", "a b", "Zoe"] : List Str).map V.str) (el_lst (ea_cons ev_c (ea_cons ev_c (ea_cons ev_c (ea_cons ev_c ea_nil)))) (by show 4 ≤ 100000; decide)) fun p H1 hp e1 h1 => ?_
    have hlen : (ws ++ ws ++ (["", "abcdefghijklm", "a b", "Zoe"] : List Str)).length = 12 := by
      rw [List.length_append, List.length_append, hn]
      rfl
    obtain ⟨nm, hnm⟩ : ∃ nm, (ws ++ ws ++ (["", "abcdefghijklm", "a b", "Zoe"] : List Str))[(raw % 12).toNat]? = some nm := ⟨_, List.getElem?_eq_getElem (by omega)⟩
    have hmem := List.mem_of_getElem? hnm
    have hsz : nm.length ≤ 40000 := by
      rcases List.mem_append.mp hmem with h | h
      · rcases List.mem_append.mp h with h | h
        · have := hz _ h; omega
        · have := hz _ h; omega
      · have : ∀ z ∈ (["", "abcdefghijklm", "a b", "Zoe"] : List Str), z.length ≤ 40000 := by decide +kernel
        exact this _ h
    have hml : (ws.map V.str).length = 4 := by rw [List.length_map, hn]
    refine s_ret (v := .str nm) (ev_ixN (z := raw % 12) (el_catB (el_cat2 (ev_var rfl) (e1 _ _ hl) (ev_var rfl) (e1 _ _ hl) (by omega)) (ev_var rfl) h1 (by rw [List.length_append, hml]; show 4 + 4 + 4 ≤ 100000; decide)) (by walk_at "ev") ?_) fun H2 e2 => q nm H2 hsz (e1.trans e2)
    rw [← List.map_append, ← List.map_append]
    exact at_of (j := (raw % 12).toNat) (by omega) (by rw [List.getElem?_map, hnm]; rfl)
def spMissing (CH CB : Addr) : Sp := fun vs H Q _ => ∃ (d : HouseD) (M : HouseM) (nm : Str), vs = [.ref d.h, .str nm] ∧ HouseAt CH CB H d M ∧ ∀ H', Ex H H' → Q (.bl (M.bk.mem? nm).isNone) H'
theorem ok__law_missing (T : Top K mg) : FnOk P w K mg base CX0 4 T.f__law_missing T.fd__law_missing ["_law_house", "_law_name"] (spMissing T.f_House T.f_Books) := by
  have nd := sc__law_missing.nd
  have G_House_purse : FnOk P w K mg base (L2.CX P w) 3 T.f_House_purse T.fd_House_purse ["self", "name"] (spPurse T.f_House T.f_Books T.f_Unknown) := ok_House_purse T.F_House_purse T
  refine T.F__law_missing.ok sc__law_missing (fun vs H Q E h => ?_) (fun cdv A outer s H vs Q E hr h => ?_)
  · obtain ⟨d, M, nm, rfl, _⟩ := h
    rfl
  · obtain ⟨d, M, nm, rfl, hH, q⟩ := h
    refine ⟨_, (pss_cons (ps_set (i := 2) nd rfl (.inl rfl) pe_bl)
      (pss_cut (ps_try_only (c := .ref T.f_Unknown) rfl rfl ⟨rfl, by decide, .inl T.m_Unknown⟩ takes0
        (fun W pn xe tk _ => (pss_one (ps_expr (pe_methW (pv 0) T.cl_House T.mt_House_purse G_House_purse (hr.mono (by omega)) T.b_House_purse (fun σ => passAt tk σ) (pa_cons (pv 1) pa_nil)))))
        (fun a oe cls dd pn hz hf => (pss_one (ps_set (i := 2) nd rfl (.inl rfl) pe_bl))))
      (pss_one (ps_ret (pv 2))))), ?_⟩
    refine q_asg ev_c fun H1 e1 => ?_
    have hH1 := hH.ex e1
    refine q_cut (M := fun σ' H' => σ' = [some (.ref d.h), some (.str nm), some (.bl (M.bk.mem? nm).isNone)] ∧ Ex H H') ?_ ?_
    · refine s_dropX (te_methW (ev_var rfl) hH1.hh rfl (ea_cons (ev_var rfl) ea_nil) fun H3 e3 => ?_)
      refine ⟨d, M, nm, rfl, hH1.ex e3, fun m hm H4 e4 => ?_, fun hm H4 e4 => ?_⟩
      · refine ⟨?_, (e1.trans e3).trans e4⟩
        rw [hm]
        rfl
      · refine ⟨true, PySem.W.exm_ref T.sb_Unknown T.hd_Unknown T.ty_Unknown T.su_Unknown_Unknown, fun _ ae hae => ?_, fun z => by cases z⟩
        refine s_asg (v := .bl true) ev_c fun H5 e5 => ?_
        refine ⟨?_, ((e1.trans e3).trans e4).trans e5⟩
        rw [hm]
        rfl
    · rintro _ H2 ⟨rfl, e2⟩
      exact s_ret (ev_var rfl) fun H3 e3 => q H3 (e2.trans e3)
def spLDone (T : Top K mg) : Sp := fun vs H Q _ => ∃ (d : HouseD) (M : HouseM) (r : Addr) (m : MD), vs = [.ref d.h, .ref r] ∧ H r = some (.tup m.row) ∧ HouseAt T.f_House T.f_Books H d M ∧ m.nm.length ≤ 40000 ∧ HouseOk M ∧
  (∀ c, m.ref M.bk = some c → ∀ H' q mk, Ex H H' → H' q = some (.tup [.non, .ref mk]) → H' mk = some (.lst ((marksOf c).map V.bl)) → Q (.ref q) H') ∧
  (m.ref M.bk = none → ∀ H' u bk r' p q mk, FrT d.mut H H' → Nw H u → HouseAt T.f_House T.f_Books H' { d with un := u } { bk := bk, kept := M.kept ++ [⟨p, .ref r', M.bk.trail.length⟩], undone := [] } → m.af M.bk bk → H' q = some (.tup [.non, .ref mk]) → H' mk = some (.lst []) → Q (.ref q) H')
theorem ok__law_done (T : Top K mg) (DF_ACTIONS : ModD K w.params T.f_ACTIONS (actKv T)) : FnOk P w K mg base CX0 9 T.f__law_done T.fd__law_done ["_law_house", "_law_row"] (spLDone T) := by
  have nd := sc__law_done.nd
  have G_House_enter := ok_House_enter (P := P) (w := w) (base := base) T.F_House_enter T DF_ACTIONS
  have G_House_part := ok_House_part (P := P) (w := w) (base := base) T.F_House_part T DF_ACTIONS
  have G_House_bring := ok_House_bring (P := P) (w := w) (base := base) T.F_House_bring T DF_ACTIONS
  have G_House_take := ok_House_take (P := P) (w := w) (base := base) T.F_House_take T DF_ACTIONS
  refine T.F__law_done.ok sc__law_done (fun vs H Q E h => ?_) (fun cdv A outer s H vs Q E hr h => ?_)
  · obtain ⟨d, M, r, m, rfl, _⟩ := h
    rfl
  · obtain ⟨d, M, r, m, rfl, hr', hH, hn, hok, qx, q⟩ := h
    refine ⟨_, (pss_cons (ps_set (i := 2) nd rfl (.inl rfl) (pe_lst pa_nil))
      (pss_cons (ps_set (i := 3) nd rfl (.inl rfl) pe_non)
      (pss_cut (ps_try_as (i := 4) (c := .ref T.f_SusuError) rfl rfl nd rfl rfl ⟨rfl, by decide, .inl T.m_SusuError⟩ takes0
        (fun W pn xe tk _ => (pss_one (ps_if (pt_cmpR op_eq (pe_ix (ix_tupK (K := K) rfl) (pv 1) pe_int (fun _ _ => rfl)) pe_str (nomark _))
            (pss_one (ps_set (i := 3) nd rfl (.inl rfl) (pe_methW (pv 0) T.cl_House T.mt_House_enter G_House_enter (hr.mono (by omega)) T.b_House_enter (fun σ => passAt tk σ) (pa_cons (pe_ix (ix_tupK (K := K) rfl) (pv 1) pe_int (fun _ _ => rfl)) pa_nil))))
            (pss_one (ps_if (pt_cmpR op_eq (pe_ix (ix_tupK (K := K) rfl) (pv 1) pe_int (fun _ _ => rfl)) pe_str (nomark _))
                (pss_one (ps_set (i := 3) nd rfl (.inl rfl) (pe_methW (pv 0) T.cl_House T.mt_House_part G_House_part (hr.mono (by omega)) T.b_House_part (fun σ => passAt tk σ) (pa_cons (pe_ix (ix_tupK (K := K) rfl) (pv 1) pe_int (fun _ _ => rfl)) pa_nil))))
                (pss_one (ps_if (pt_cmpR op_eq (pe_ix (ix_tupK (K := K) rfl) (pv 1) pe_int (fun _ _ => rfl)) pe_str (nomark _))
                    (pss_one (ps_set (i := 3) nd rfl (.inl rfl) (pe_methW (pv 0) T.cl_House T.mt_House_bring G_House_bring (hr.mono (by omega)) T.b_House_bring (fun σ => passAt tk σ) (pa_cons (pe_ix (ix_tupK (K := K) rfl) (pv 1) pe_int (fun _ _ => rfl)) (pa_cons (pe_ix (ix_tupK (K := K) rfl) (pv 1) pe_int (fun _ _ => rfl)) pa_nil)))))
                    (pss_one (ps_set (i := 3) nd rfl (.inl rfl) (pe_methW (pv 0) T.cl_House T.mt_House_take G_House_take (hr.mono (by omega)) T.b_House_take (fun σ => passAt tk σ) (pa_cons (pe_ix (ix_tupK (K := K) rfl) (pv 1) pe_int (fun _ _ => rfl)) (pa_cons (pe_ix (ix_tupK (K := K) rfl) (pv 1) pe_int (fun _ _ => rfl)) pa_nil))))))))))))
        (fun a oe cls dd pn hz hf => (pss_ex (Pi := fun D : Addr => cls = .ref D ∧ dd = none ∧ ExcC K D) (t := fun D => tAsg (tLst (tCons (tCB (rIsE K D a) (tCons (tVar 4) (tCons (tC (.ref T.f_BadName)) tNil))) (tCons (tCB (rIsE K D a) (tCons (tVar 4) (tCons (tC (.ref T.f_BadNumber)) tNil))) (tCons (tCB (rIsE K D a) (tCons (tVar 4) (tCons (tC (.ref T.f_Known)) tNil))) (tCons (tCB (rIsE K D a) (tCons (tVar 4) (tCons (tC (.ref T.f_Unknown)) tNil))) (tCons (tCB (rIsE K D a) (tCons (tVar 4) (tCons (tC (.ref T.f_Twice)) tNil))) (tCons (tCB (rIsE K D a) (tCons (tVar 4) (tCons (tC (.ref T.f_Seated)) tNil))) (tCons (tCB (rIsE K D a) (tCons (tVar 4) (tCons (tC (.ref T.f_Holding)) tNil))) (tCons (tCB (rIsE K D a) (tCons (tVar 4) (tCons (tC (.ref T.f_Short)) tNil))) (tCons (tCB (rIsE K D a) (tCons (tVar 4) (tCons (tC (.ref T.f_NoSeat)) tNil))) (tCons (tCB (rIsE K D a) (tCons (tVar 4) (tCons (tC (.ref T.f_Ended)) tNil))) (tCons (tCB (rIsE K D a) (tCons (tVar 4) (tCons (tC (.ref T.f_Fell)) tNil))) (tCons (tCB (rIsE K D a) (tCons (tVar 4) (tCons (tC (.ref T.f_Paid)) tNil))) (tCons (tCB (rIsE K D a) (tCons (tVar 4) (tCons (tC (.ref T.f_NoBids)) tNil))) (tCons (tCB (rIsE K D a) (tCons (tVar 4) (tCons (tC (.ref T.f_NotWaiting)) tNil))) (tCons (tCB (rIsE K D a) (tCons (tVar 4) (tCons (tC (.ref T.f_Uncovered)) tNil))) (tCons (tCB (rIsE K D a) (tCons (tVar 4) (tCons (tC (.ref T.f_NoOrder)) tNil))) tNil))))))))))))))))) (gName 2)) (fun D hP => by obtain ⟨rfl, rfl, C⟩ := hP; exact pss_one (ps_set (i := 2) nd rfl (.inl rfl) (pe_lst (pa_cons (pe_callB (call_isE C hz hf) (by rfl) T.m_isinstance (by decide +kernel) (pa_cons (pv 4) (pa_cons (pe_glob (v := .ref T.f_BadName) (by rfl) T.m_BadName rfl) pa_nil))) (pa_cons (pe_callB (call_isE C hz hf) (by rfl) T.m_isinstance (by decide +kernel) (pa_cons (pv 4) (pa_cons (pe_glob (v := .ref T.f_BadNumber) (by rfl) T.m_BadNumber rfl) pa_nil))) (pa_cons (pe_callB (call_isE C hz hf) (by rfl) T.m_isinstance (by decide +kernel) (pa_cons (pv 4) (pa_cons (pe_glob (v := .ref T.f_Known) (by rfl) T.m_Known rfl) pa_nil))) (pa_cons (pe_callB (call_isE C hz hf) (by rfl) T.m_isinstance (by decide +kernel) (pa_cons (pv 4) (pa_cons (pe_glob (v := .ref T.f_Unknown) (by rfl) T.m_Unknown rfl) pa_nil))) (pa_cons (pe_callB (call_isE C hz hf) (by rfl) T.m_isinstance (by decide +kernel) (pa_cons (pv 4) (pa_cons (pe_glob (v := .ref T.f_Twice) (by rfl) T.m_Twice rfl) pa_nil))) (pa_cons (pe_callB (call_isE C hz hf) (by rfl) T.m_isinstance (by decide +kernel) (pa_cons (pv 4) (pa_cons (pe_glob (v := .ref T.f_Seated) (by rfl) T.m_Seated rfl) pa_nil))) (pa_cons (pe_callB (call_isE C hz hf) (by rfl) T.m_isinstance (by decide +kernel) (pa_cons (pv 4) (pa_cons (pe_glob (v := .ref T.f_Holding) (by rfl) T.m_Holding rfl) pa_nil))) (pa_cons (pe_callB (call_isE C hz hf) (by rfl) T.m_isinstance (by decide +kernel) (pa_cons (pv 4) (pa_cons (pe_glob (v := .ref T.f_Short) (by rfl) T.m_Short rfl) pa_nil))) (pa_cons (pe_callB (call_isE C hz hf) (by rfl) T.m_isinstance (by decide +kernel) (pa_cons (pv 4) (pa_cons (pe_glob (v := .ref T.f_NoSeat) (by rfl) T.m_NoSeat rfl) pa_nil))) (pa_cons (pe_callB (call_isE C hz hf) (by rfl) T.m_isinstance (by decide +kernel) (pa_cons (pv 4) (pa_cons (pe_glob (v := .ref T.f_Ended) (by rfl) T.m_Ended rfl) pa_nil))) (pa_cons (pe_callB (call_isE C hz hf) (by rfl) T.m_isinstance (by decide +kernel) (pa_cons (pv 4) (pa_cons (pe_glob (v := .ref T.f_Fell) (by rfl) T.m_Fell rfl) pa_nil))) (pa_cons (pe_callB (call_isE C hz hf) (by rfl) T.m_isinstance (by decide +kernel) (pa_cons (pv 4) (pa_cons (pe_glob (v := .ref T.f_Paid) (by rfl) T.m_Paid rfl) pa_nil))) (pa_cons (pe_callB (call_isE C hz hf) (by rfl) T.m_isinstance (by decide +kernel) (pa_cons (pv 4) (pa_cons (pe_glob (v := .ref T.f_NoBids) (by rfl) T.m_NoBids rfl) pa_nil))) (pa_cons (pe_callB (call_isE C hz hf) (by rfl) T.m_isinstance (by decide +kernel) (pa_cons (pv 4) (pa_cons (pe_glob (v := .ref T.f_NotWaiting) (by rfl) T.m_NotWaiting rfl) pa_nil))) (pa_cons (pe_callB (call_isE C hz hf) (by rfl) T.m_isinstance (by decide +kernel) (pa_cons (pv 4) (pa_cons (pe_glob (v := .ref T.f_Uncovered) (by rfl) T.m_Uncovered rfl) pa_nil))) (pa_cons (pe_callB (call_isE C hz hf) (by rfl) T.m_isinstance (by decide +kernel) (pa_cons (pv 4) (pa_cons (pe_glob (v := .ref T.f_NoOrder) (by rfl) T.m_NoOrder rfl) pa_nil))) pa_nil))))))))))))))))))))))
      (pss_one (ps_ret (pe_tup (pa_cons (pv 3) (pa_cons (pv 2) pa_nil)))))))), ?_⟩
    refine q_asgL (el_lst ea_nil (by decide)) fun mk H1 hmk e1 h1 => ?_
    refine q_asg ev_c fun H2 e2 => ?_
    have hH1 := hH.ex e1
    have hr1 := e1 _ _ hr'
    have nmk : mk ∉ d.mut := fun z => by
      obtain ⟨o, ho⟩ := hH.mut_old z
      rw [hmk] at ho
      cases ho
    have a0 : atI m.row 0 = some (.str m.word) := by rw [m.row_eq]; exact atI_nat (j := 0) rfl
    refine q_cut (M := fun σ' H' => ∃ mk, σ' = [some (.ref d.h), some (.ref r), some (.ref mk), some .non, none] ∧ ((∃ c, m.ref M.bk = some c ∧ Ex H H' ∧ H' mk = some (.lst ((marksOf c).map V.bl))) ∨
      (m.ref M.bk = none ∧ ∃ u bk r' p, FrT d.mut H H' ∧ Nw H u ∧ HouseAt T.f_House T.f_Books H' { d with un := u } { bk := bk, kept := M.kept ++ [⟨p, .ref r', M.bk.trail.length⟩], undone := [] } ∧ m.af M.bk bk ∧ H' mk = some (.lst [])))) ?_ ?_
    · have isW : ∀ {σ : L2.St} {H' : Hp} {z : Str} {c : Bool}, Ex H1 H' → σ[1]? = some (some (.ref r)) → decide (m.word = z) = c → EvT (tTest (tOp rEq (tOp (rIxT K) (tVar 1) (tC (.int 0))) (tC (.str z)))) σ H' c := fun e hσ hc => et_is (et_test (ev_op (ev_op (ev_var hσ) ev_c (rv_ixT (st_of (e _ _ hr1)) a0)) ev_c (rv_eq rfl))) (by rw [str_eq]; exact hc)
      have aN : ∀ {σ : L2.St} {H' : Hp}, Ex H1 H' → σ[1]? = some (some (.ref r)) → Ev (tOp (rIxT K) (tVar 1) (tC (.int 1))) σ H' (.str m.nm) := fun e hσ => ev_op (ev_var hσ) ev_c (rv_ixT (st_of (e _ _ hr1)) (by cases m <;> exact atI_nat (j := 1) rfl))
      cases m with
      | enter nm =>
        have e0 := e2
        refine s_if (b := true) (isW e0 rfl (by show decide ((Str.ofString "enter") = _) = _; decide +kernel)) (fun hb Ha ea => ?_) (fun hb Ha ea => ?_)
        rotate_left
        · cases hb
        replace e0 := e0.trans ea
        have hHa := hH1.ex e0
        refine s_asgX (te_methW (ev_var rfl) hHa.hh rfl (ea_cons (aN e0 rfl) ea_nil) fun Hb eb => ?_)
        refine ⟨.enter nm, _, ⟨nm, rfl, rfl⟩, d, M, rfl, hH1.ex (e0.trans eb), hn, hok, fun c hc He ee => ?_, fun hc He u bk r' p f2 hu hH2' ha hr2 => ?_⟩
        · obtain ⟨su, ex, b0, b1, b2, b3, b4, b5, b6, b7, b8, b9, b10, b11, b12, b13, b14, b15, hm, k0, k1, k2, k3, k4, k5, k6, k7, k8, k9, k10, k11, k12, k13, k14, k15⟩ := ki_of T hc
          refine ⟨true, PySem.W.exm_ref T.sb_SusuError T.hd_SusuError T.ty_SusuError su, fun _ ae hae => ⟨T.cls c, ⟨rfl, rfl, ex⟩, s_asgL (xs := [.bl b0, .bl b1, .bl b2, .bl b3, .bl b4, .bl b5, .bl b6, .bl b7, .bl b8, .bl b9, .bl b10, .bl b11, .bl b12, .bl b13, .bl b14, .bl b15]) (el_lst (ea_cons (ev_cb (ea_cons (ev_var rfl) (ea_cons ev_c ea_nil)) (rc_isE k0)) (ea_cons (ev_cb (ea_cons (ev_var rfl) (ea_cons ev_c ea_nil)) (rc_isE k1)) (ea_cons (ev_cb (ea_cons (ev_var rfl) (ea_cons ev_c ea_nil)) (rc_isE k2)) (ea_cons (ev_cb (ea_cons (ev_var rfl) (ea_cons ev_c ea_nil)) (rc_isE k3)) (ea_cons (ev_cb (ea_cons (ev_var rfl) (ea_cons ev_c ea_nil)) (rc_isE k4)) (ea_cons (ev_cb (ea_cons (ev_var rfl) (ea_cons ev_c ea_nil)) (rc_isE k5)) (ea_cons (ev_cb (ea_cons (ev_var rfl) (ea_cons ev_c ea_nil)) (rc_isE k6)) (ea_cons (ev_cb (ea_cons (ev_var rfl) (ea_cons ev_c ea_nil)) (rc_isE k7)) (ea_cons (ev_cb (ea_cons (ev_var rfl) (ea_cons ev_c ea_nil)) (rc_isE k8)) (ea_cons (ev_cb (ea_cons (ev_var rfl) (ea_cons ev_c ea_nil)) (rc_isE k9)) (ea_cons (ev_cb (ea_cons (ev_var rfl) (ea_cons ev_c ea_nil)) (rc_isE k10)) (ea_cons (ev_cb (ea_cons (ev_var rfl) (ea_cons ev_c ea_nil)) (rc_isE k11)) (ea_cons (ev_cb (ea_cons (ev_var rfl) (ea_cons ev_c ea_nil)) (rc_isE k12)) (ea_cons (ev_cb (ea_cons (ev_var rfl) (ea_cons ev_c ea_nil)) (rc_isE k13)) (ea_cons (ev_cb (ea_cons (ev_var rfl) (ea_cons ev_c ea_nil)) (rc_isE k14)) (ea_cons (ev_cb (ea_cons (ev_var rfl) (ea_cons ev_c ea_nil)) (rc_isE k15)) ea_nil)))))))))))))))) (by show 16 ≤ 100000; decide)) fun m2 H5 hm2 e5 h5 => ⟨m2, rfl, .inl ⟨c, hc, e1.trans (((e0.trans eb).trans ee).trans e5), by rw [hm]; exact h5⟩⟩⟩, fun z => by cases z⟩
        · have hmk2 := f2 mk _ ((e0.trans eb) _ _ h1) (fun _ z => nomatch z) nmk
          exact ⟨mk, rfl, .inr ⟨hc, u, bk, r', p, (FrT.ex (e1.trans (e0.trans eb))).trans f2, Nw.back (exN_of (e1.trans (e0.trans eb))) hu, hH2', ha, hmk2⟩⟩
      | part nm =>
        have e0 := e2
        refine s_if (b := false) (isW e0 rfl (by show decide ((Str.ofString "part") = _) = _; decide +kernel)) (fun hb Ha ea => ?_) (fun hb Ha ea => ?_)
        · cases hb
        replace e0 := e0.trans ea
        refine s_if (b := true) (isW e0 rfl (by show decide ((Str.ofString "part") = _) = _; decide +kernel)) (fun hb Ha ea => ?_) (fun hb Ha ea => ?_)
        rotate_left
        · cases hb
        replace e0 := e0.trans ea
        have hHa := hH1.ex e0
        refine s_asgX (te_methW (ev_var rfl) hHa.hh rfl (ea_cons (aN e0 rfl) ea_nil) fun Hb eb => ?_)
        refine ⟨.part nm, _, ⟨nm, rfl, rfl⟩, d, M, rfl, hH1.ex (e0.trans eb), hn, hok, fun c hc He ee => ?_, fun hc He u bk r' p f2 hu hH2' ha hr2 => ?_⟩
        · obtain ⟨su, ex, b0, b1, b2, b3, b4, b5, b6, b7, b8, b9, b10, b11, b12, b13, b14, b15, hm, k0, k1, k2, k3, k4, k5, k6, k7, k8, k9, k10, k11, k12, k13, k14, k15⟩ := ki_of T hc
          refine ⟨true, PySem.W.exm_ref T.sb_SusuError T.hd_SusuError T.ty_SusuError su, fun _ ae hae => ⟨T.cls c, ⟨rfl, rfl, ex⟩, s_asgL (xs := [.bl b0, .bl b1, .bl b2, .bl b3, .bl b4, .bl b5, .bl b6, .bl b7, .bl b8, .bl b9, .bl b10, .bl b11, .bl b12, .bl b13, .bl b14, .bl b15]) (el_lst (ea_cons (ev_cb (ea_cons (ev_var rfl) (ea_cons ev_c ea_nil)) (rc_isE k0)) (ea_cons (ev_cb (ea_cons (ev_var rfl) (ea_cons ev_c ea_nil)) (rc_isE k1)) (ea_cons (ev_cb (ea_cons (ev_var rfl) (ea_cons ev_c ea_nil)) (rc_isE k2)) (ea_cons (ev_cb (ea_cons (ev_var rfl) (ea_cons ev_c ea_nil)) (rc_isE k3)) (ea_cons (ev_cb (ea_cons (ev_var rfl) (ea_cons ev_c ea_nil)) (rc_isE k4)) (ea_cons (ev_cb (ea_cons (ev_var rfl) (ea_cons ev_c ea_nil)) (rc_isE k5)) (ea_cons (ev_cb (ea_cons (ev_var rfl) (ea_cons ev_c ea_nil)) (rc_isE k6)) (ea_cons (ev_cb (ea_cons (ev_var rfl) (ea_cons ev_c ea_nil)) (rc_isE k7)) (ea_cons (ev_cb (ea_cons (ev_var rfl) (ea_cons ev_c ea_nil)) (rc_isE k8)) (ea_cons (ev_cb (ea_cons (ev_var rfl) (ea_cons ev_c ea_nil)) (rc_isE k9)) (ea_cons (ev_cb (ea_cons (ev_var rfl) (ea_cons ev_c ea_nil)) (rc_isE k10)) (ea_cons (ev_cb (ea_cons (ev_var rfl) (ea_cons ev_c ea_nil)) (rc_isE k11)) (ea_cons (ev_cb (ea_cons (ev_var rfl) (ea_cons ev_c ea_nil)) (rc_isE k12)) (ea_cons (ev_cb (ea_cons (ev_var rfl) (ea_cons ev_c ea_nil)) (rc_isE k13)) (ea_cons (ev_cb (ea_cons (ev_var rfl) (ea_cons ev_c ea_nil)) (rc_isE k14)) (ea_cons (ev_cb (ea_cons (ev_var rfl) (ea_cons ev_c ea_nil)) (rc_isE k15)) ea_nil)))))))))))))))) (by show 16 ≤ 100000; decide)) fun m2 H5 hm2 e5 h5 => ⟨m2, rfl, .inl ⟨c, hc, e1.trans (((e0.trans eb).trans ee).trans e5), by rw [hm]; exact h5⟩⟩⟩, fun z => by cases z⟩
        · have hmk2 := f2 mk _ ((e0.trans eb) _ _ h1) (fun _ z => nomatch z) nmk
          exact ⟨mk, rfl, .inr ⟨hc, u, bk, r', p, (FrT.ex (e1.trans (e0.trans eb))).trans f2, Nw.back (exN_of (e1.trans (e0.trans eb))) hu, hH2', ha, hmk2⟩⟩
      | bring nm cn =>
        have e0 := e2
        refine s_if (b := false) (isW e0 rfl (by show decide ((Str.ofString "bring") = _) = _; decide +kernel)) (fun hb Ha ea => ?_) (fun hb Ha ea => ?_)
        · cases hb
        replace e0 := e0.trans ea
        refine s_if (b := false) (isW e0 rfl (by show decide ((Str.ofString "bring") = _) = _; decide +kernel)) (fun hb Ha ea => ?_) (fun hb Ha ea => ?_)
        · cases hb
        replace e0 := e0.trans ea
        refine s_if (b := true) (isW e0 rfl (by show decide ((Str.ofString "bring") = _) = _; decide +kernel)) (fun hb Ha ea => ?_) (fun hb Ha ea => ?_)
        rotate_left
        · cases hb
        replace e0 := e0.trans ea
        have hHa := hH1.ex e0
        refine s_asgX (te_methW (ev_var rfl) hHa.hh rfl (ea_cons (aN e0 rfl) (ea_cons (ev_op (ev_var rfl) ev_c (rv_ixT (st_of (e0 _ _ hr1)) (atI_nat (j := 2) rfl))) ea_nil)) fun Hb eb => ?_)
        refine ⟨.bring nm cn, _, ⟨nm, cn, rfl, rfl⟩, d, M, rfl, hH1.ex (e0.trans eb), hn, hok, fun c hc He ee => ?_, fun hc He u bk r' p f2 hu hH2' ha hr2 => ?_⟩
        · obtain ⟨su, ex, b0, b1, b2, b3, b4, b5, b6, b7, b8, b9, b10, b11, b12, b13, b14, b15, hm, k0, k1, k2, k3, k4, k5, k6, k7, k8, k9, k10, k11, k12, k13, k14, k15⟩ := ki_of T hc
          refine ⟨true, PySem.W.exm_ref T.sb_SusuError T.hd_SusuError T.ty_SusuError su, fun _ ae hae => ⟨T.cls c, ⟨rfl, rfl, ex⟩, s_asgL (xs := [.bl b0, .bl b1, .bl b2, .bl b3, .bl b4, .bl b5, .bl b6, .bl b7, .bl b8, .bl b9, .bl b10, .bl b11, .bl b12, .bl b13, .bl b14, .bl b15]) (el_lst (ea_cons (ev_cb (ea_cons (ev_var rfl) (ea_cons ev_c ea_nil)) (rc_isE k0)) (ea_cons (ev_cb (ea_cons (ev_var rfl) (ea_cons ev_c ea_nil)) (rc_isE k1)) (ea_cons (ev_cb (ea_cons (ev_var rfl) (ea_cons ev_c ea_nil)) (rc_isE k2)) (ea_cons (ev_cb (ea_cons (ev_var rfl) (ea_cons ev_c ea_nil)) (rc_isE k3)) (ea_cons (ev_cb (ea_cons (ev_var rfl) (ea_cons ev_c ea_nil)) (rc_isE k4)) (ea_cons (ev_cb (ea_cons (ev_var rfl) (ea_cons ev_c ea_nil)) (rc_isE k5)) (ea_cons (ev_cb (ea_cons (ev_var rfl) (ea_cons ev_c ea_nil)) (rc_isE k6)) (ea_cons (ev_cb (ea_cons (ev_var rfl) (ea_cons ev_c ea_nil)) (rc_isE k7)) (ea_cons (ev_cb (ea_cons (ev_var rfl) (ea_cons ev_c ea_nil)) (rc_isE k8)) (ea_cons (ev_cb (ea_cons (ev_var rfl) (ea_cons ev_c ea_nil)) (rc_isE k9)) (ea_cons (ev_cb (ea_cons (ev_var rfl) (ea_cons ev_c ea_nil)) (rc_isE k10)) (ea_cons (ev_cb (ea_cons (ev_var rfl) (ea_cons ev_c ea_nil)) (rc_isE k11)) (ea_cons (ev_cb (ea_cons (ev_var rfl) (ea_cons ev_c ea_nil)) (rc_isE k12)) (ea_cons (ev_cb (ea_cons (ev_var rfl) (ea_cons ev_c ea_nil)) (rc_isE k13)) (ea_cons (ev_cb (ea_cons (ev_var rfl) (ea_cons ev_c ea_nil)) (rc_isE k14)) (ea_cons (ev_cb (ea_cons (ev_var rfl) (ea_cons ev_c ea_nil)) (rc_isE k15)) ea_nil)))))))))))))))) (by show 16 ≤ 100000; decide)) fun m2 H5 hm2 e5 h5 => ⟨m2, rfl, .inl ⟨c, hc, e1.trans (((e0.trans eb).trans ee).trans e5), by rw [hm]; exact h5⟩⟩⟩, fun z => by cases z⟩
        · have hmk2 := f2 mk _ ((e0.trans eb) _ _ h1) (fun _ z => nomatch z) nmk
          exact ⟨mk, rfl, .inr ⟨hc, u, bk, r', p, (FrT.ex (e1.trans (e0.trans eb))).trans f2, Nw.back (exN_of (e1.trans (e0.trans eb))) hu, hH2', ha, hmk2⟩⟩
      | take nm cn =>
        have e0 := e2
        refine s_if (b := false) (isW e0 rfl (by show decide ((Str.ofString "take") = _) = _; decide +kernel)) (fun hb Ha ea => ?_) (fun hb Ha ea => ?_)
        · cases hb
        replace e0 := e0.trans ea
        refine s_if (b := false) (isW e0 rfl (by show decide ((Str.ofString "take") = _) = _; decide +kernel)) (fun hb Ha ea => ?_) (fun hb Ha ea => ?_)
        · cases hb
        replace e0 := e0.trans ea
        refine s_if (b := false) (isW e0 rfl (by show decide ((Str.ofString "take") = _) = _; decide +kernel)) (fun hb Ha ea => ?_) (fun hb Ha ea => ?_)
        · cases hb
        replace e0 := e0.trans ea
        have hHa := hH1.ex e0
        refine s_asgX (te_methW (ev_var rfl) hHa.hh rfl (ea_cons (aN e0 rfl) (ea_cons (ev_op (ev_var rfl) ev_c (rv_ixT (st_of (e0 _ _ hr1)) (atI_nat (j := 2) rfl))) ea_nil)) fun Hb eb => ?_)
        refine ⟨.take nm cn, _, ⟨nm, cn, rfl, rfl⟩, d, M, rfl, hH1.ex (e0.trans eb), hn, hok, fun c hc He ee => ?_, fun hc He u bk r' p f2 hu hH2' ha hr2 => ?_⟩
        · obtain ⟨su, ex, b0, b1, b2, b3, b4, b5, b6, b7, b8, b9, b10, b11, b12, b13, b14, b15, hm, k0, k1, k2, k3, k4, k5, k6, k7, k8, k9, k10, k11, k12, k13, k14, k15⟩ := ki_of T hc
          refine ⟨true, PySem.W.exm_ref T.sb_SusuError T.hd_SusuError T.ty_SusuError su, fun _ ae hae => ⟨T.cls c, ⟨rfl, rfl, ex⟩, s_asgL (xs := [.bl b0, .bl b1, .bl b2, .bl b3, .bl b4, .bl b5, .bl b6, .bl b7, .bl b8, .bl b9, .bl b10, .bl b11, .bl b12, .bl b13, .bl b14, .bl b15]) (el_lst (ea_cons (ev_cb (ea_cons (ev_var rfl) (ea_cons ev_c ea_nil)) (rc_isE k0)) (ea_cons (ev_cb (ea_cons (ev_var rfl) (ea_cons ev_c ea_nil)) (rc_isE k1)) (ea_cons (ev_cb (ea_cons (ev_var rfl) (ea_cons ev_c ea_nil)) (rc_isE k2)) (ea_cons (ev_cb (ea_cons (ev_var rfl) (ea_cons ev_c ea_nil)) (rc_isE k3)) (ea_cons (ev_cb (ea_cons (ev_var rfl) (ea_cons ev_c ea_nil)) (rc_isE k4)) (ea_cons (ev_cb (ea_cons (ev_var rfl) (ea_cons ev_c ea_nil)) (rc_isE k5)) (ea_cons (ev_cb (ea_cons (ev_var rfl) (ea_cons ev_c ea_nil)) (rc_isE k6)) (ea_cons (ev_cb (ea_cons (ev_var rfl) (ea_cons ev_c ea_nil)) (rc_isE k7)) (ea_cons (ev_cb (ea_cons (ev_var rfl) (ea_cons ev_c ea_nil)) (rc_isE k8)) (ea_cons (ev_cb (ea_cons (ev_var rfl) (ea_cons ev_c ea_nil)) (rc_isE k9)) (ea_cons (ev_cb (ea_cons (ev_var rfl) (ea_cons ev_c ea_nil)) (rc_isE k10)) (ea_cons (ev_cb (ea_cons (ev_var rfl) (ea_cons ev_c ea_nil)) (rc_isE k11)) (ea_cons (ev_cb (ea_cons (ev_var rfl) (ea_cons ev_c ea_nil)) (rc_isE k12)) (ea_cons (ev_cb (ea_cons (ev_var rfl) (ea_cons ev_c ea_nil)) (rc_isE k13)) (ea_cons (ev_cb (ea_cons (ev_var rfl) (ea_cons ev_c ea_nil)) (rc_isE k14)) (ea_cons (ev_cb (ea_cons (ev_var rfl) (ea_cons ev_c ea_nil)) (rc_isE k15)) ea_nil)))))))))))))))) (by show 16 ≤ 100000; decide)) fun m2 H5 hm2 e5 h5 => ⟨m2, rfl, .inl ⟨c, hc, e1.trans (((e0.trans eb).trans ee).trans e5), by rw [hm]; exact h5⟩⟩⟩, fun z => by cases z⟩
        · have hmk2 := f2 mk _ ((e0.trans eb) _ _ h1) (fun _ z => nomatch z) nmk
          exact ⟨mk, rfl, .inr ⟨hc, u, bk, r', p, (FrT.ex (e1.trans (e0.trans eb))).trans f2, Nw.back (exN_of (e1.trans (e0.trans eb))) hu, hH2', ha, hmk2⟩⟩
    · rintro _ H3 ⟨mk, rfl, h⟩
      refine s_retU (eu_tup (vs := [.non, .ref mk]) (ea_cons (ev_var rfl) (ea_cons (ev_var rfl) ea_nil)) (by show 2 ≤ 100000; decide)) fun p4 H4 _ e4 h4 => ?_
      rcases h with ⟨c, hc, e3, hm3⟩ | ⟨hc, u, bk, r', p, f3, hu, hH3, ha, hm3⟩
      · exact qx c hc H4 p4 mk (e3.trans e4) h4 (e4 _ _ hm3)
      · exact q hc H4 u bk r' p p4 mk (f3.trans (FrT.ex e4)) hu (hH3.ex e4) ha h4 (e4 _ _ hm3)
end

end Su
namespace Su
open TL
/-! ### k40: the law -/
def BGood (M : BookM) (i : Nat) : Prop := M.tabs = [] ∧ M.inc ∧ (∀ m ∈ M.mems, m.num < (M.trail.length : Int)) ∧ M.mems.length ≤ i ∧ M.trail.length ≤ 2 * i
theorem same_mem {M : BookM} (nd : (M.mems.map Mem.nm).Nodup) {x m : Mem} {nm : Str} (hx : x ∈ M.mems) (hm : M.mem? nm = some m) (h : x.nm = m.nm) : x = m := by
  have h1 := mem?_at nd hx
  rw [h, (BookM.mem?_mem hm).2, hm] at h1
  exact (Option.some.inj h1).symm
theorem coins_good {M bk : BookM} {nm : Str} {c : Int} {i : Nat} (h : BGood M i) (nd : (M.mems.map Mem.nm).Nodup) (ha : afCoins M nm c bk) : BGood bk (i + 1) ∧ bk.ps = (M.ps.map fun p => if p.1 = nm then (p.1, p.2 + c) else p) ∧ bk.brought = M.brought + c := by
  obtain ⟨m, a, p, p', hm, rfl⟩ := ha
  obtain ⟨h1, h2, h3, h4, h5⟩ := h
  have hnm := (BookM.mem?_mem hm).2
  have hf : ∀ x ∈ M.mems, (if x.nm = m.nm then (⟨x.nm, a, m.num, m.coins + c⟩ : Mem) else x).num = x.num := fun x hx => by
    by_cases e : x.nm = m.nm
    · rw [if_pos e, same_mem nd hx hm e]
    · rw [if_neg e]
  have hnum : (M.mems.map fun x => if x.nm = m.nm then (⟨x.nm, a, m.num, m.coins + c⟩ : Mem) else x).map Mem.num = M.mems.map Mem.num := by
    rw [List.map_map]
    exact List.map_congr_left hf
  refine ⟨⟨h1, ?_, fun x hx => ?_, ?_, ?_⟩, ?_, rfl⟩
  · show (List.map Mem.num (M.mems.map _)).Pairwise (· < ·)
    rw [hnum]
    exact h2
  · obtain ⟨y, hy, rfl⟩ := List.mem_map.mp (show x ∈ M.mems.map _ from hx)
    rw [hf y hy]
    have := h3 y hy
    show _ < (((M.trail ++ _) ++ _).length : Int)
    rw [List.length_append, List.length_append]
    show _ < ((M.trail.length + 1 + 1 : Nat) : Int)
    omega
  · show (M.mems.map _).length ≤ _
    rw [List.length_map]
    omega
  · show ((M.trail ++ _) ++ _).length ≤ _
    rw [List.length_append, List.length_append]
    show M.trail.length + 1 + 1 ≤ _
    omega
  · show List.map _ (M.mems.map _) = List.map _ (M.mems.map _)
    rw [List.map_map, List.map_map]
    apply List.map_congr_left
    intro x hx
    show (Mem.nm (if x.nm = m.nm then _ else x), Mem.coins (if x.nm = m.nm then _ else x)) = (if x.nm = nm then (x.nm, x.coins + c) else (x.nm, x.coins))
    by_cases e : x.nm = m.nm
    · rw [if_pos e, if_pos (e.trans hnm), same_mem nd hx hm e]
    · rw [if_neg e, if_neg (fun z => e (z.trans hnm.symm))]
theorem af_good {M bk : BookM} {m : MD} {i : Nat} (h : BGood M i) (nd : (M.mems.map Mem.nm).Nodup) (ha : m.af M bk) : BGood bk (i + 1) ∧ bk.ps = lPs M.ps m ∧ bk.brought = lC M.brought m := by
  cases m with
  | enter nm =>
    obtain ⟨a, p, rfl⟩ := ha
    obtain ⟨h1, h2, h3, h4, h5⟩ := h
    refine ⟨⟨h1, ?_, fun x hx => ?_, ?_, ?_⟩, ?_, rfl⟩
    · show (List.map Mem.num (M.mems ++ _)).Pairwise (· < ·)
      rw [List.map_append, List.pairwise_append]
      refine ⟨h2, List.pairwise_singleton _ _, fun a ha b hb => ?_⟩
      obtain ⟨x, hx, rfl⟩ := List.mem_map.mp ha
      obtain rfl := List.mem_singleton.mp hb
      exact h3 x hx
    · show _ < ((M.trail ++ _).length : Int)
      rw [List.length_append]
      show _ < ((M.trail.length + 1 : Nat) : Int)
      rcases List.mem_append.mp (show x ∈ M.mems ++ _ from hx) with hx | hx
      · have := h3 x hx
        omega
      · obtain rfl := List.mem_singleton.mp hx
        show (M.trail.length : Int) < _
        omega
    · show (M.mems ++ _).length ≤ _
      rw [List.length_append]
      show M.mems.length + 1 ≤ _
      omega
    · show (M.trail ++ _).length ≤ _
      rw [List.length_append]
      show M.trail.length + 1 ≤ _
      omega
    · show List.map _ (M.mems ++ _) = List.map _ M.mems ++ _
      rw [List.map_append]
      rfl
  | part nm =>
    obtain ⟨m, p, hm, rfl⟩ := ha
    obtain ⟨h1, h2, h3, h4, h5⟩ := h
    have hnm := (BookM.mem?_mem hm).2
    refine ⟨⟨h1, ?_, fun x hx => ?_, ?_, ?_⟩, ?_, rfl⟩
    · exact List.Pairwise.sublist (List.Sublist.map _ List.filter_sublist) h2
    · show _ < ((M.trail ++ _).length : Int)
      rw [List.length_append]
      show _ < ((M.trail.length + 1 : Nat) : Int)
      have := h3 x (List.mem_filter.mp (show x ∈ M.mems.filter _ from hx)).1
      omega
    · have : (M.mems.filter fun x => decide (x.nm ≠ m.nm)).length ≤ M.mems.length := List.length_filter_le _ _
      show (M.mems.filter _).length ≤ _
      omega
    · show (M.trail ++ _).length ≤ _
      rw [List.length_append]
      show M.trail.length + 1 ≤ _
      omega
    · show List.map _ (M.mems.filter _) = List.filter _ (List.map _ M.mems)
      rw [List.filter_map, ← hnm]
      rfl
  | bring nm c => exact coins_good h nd ha
  | take nm c => exact coins_good h nd ha
theorem HouseAt.frB {CH CB b pd td : Addr} {H H' : Hp} {d : HouseD} {M : HouseM} {ps : List (Str × Int)} {c : Int} (h : HouseAt CH CB H d M) (L : LBk H b pd td ps c) (f : FrT [b, pd] H H') (nb : b ∉ d.mut) (np : pd ∉ d.mut) : HouseAt CH CB H' d M := by
  have go : ∀ {a o}, H a = some o → (∀ ps, o ≠ .tbl ps) → a ≠ b → a ≠ pd → H' a = some o := fun {a o} ha nt n1 n2 => f a o ha nt (by simp [n1, n2])
  have tup : ∀ {a xs}, H a = some (.tup xs) → H' a = some (.tup xs) := fun {a xs} ha => go ha (fun _ z => nomatch z) (fun z => by rw [z, L.hb] at ha; cases ha) (fun z => by rw [z, L.hp] at ha; cases ha)
  have ins : ∀ {a C dx fs}, H a = some (.ins C dx fs) → H' a = some (.ins C dx fs) := fun {a C dx fs} ha => go ha (fun _ z => nomatch z) (fun z => by rw [z, L.hb] at ha; cases ha) (fun z => by rw [z, L.hp] at ha; cases ha)
  have inm : ∀ {a o}, a ∈ d.mut → H a = some o → (∀ ps, o ≠ .tbl ps) → H' a = some o := fun {a o} hm ha nt => go ha nt (fun z => nb (z ▸ hm)) (fun z => np (z ▸ hm))
  have hb := h.hb
  refine ⟨ins h.hh, ⟨ins hb.hb, go hb.hsh (fun _ z => nomatch z) (fun z => ?_) (fun z => ?_), inm (by simp [HouseD.mut, BookD.mut]) hb.hms (fun _ z => nomatch z), fun m hm => tup (hb.hmt m hm), hb.nd, inm (by simp [HouseD.mut, BookD.mut]) hb.hts (fun _ z => nomatch z), inm (by simp [HouseD.mut, BookD.mut]) hb.hss (fun _ z => nomatch z), inm (by simp [HouseD.mut, BookD.mut]) hb.htr (fun _ z => nomatch z), fun t ht => tup (hb.htt t ht), hb.ne⟩,
    inm (by simp [HouseD.mut]) h.hk (fun _ z => nomatch z), fun k hk => tup (h.hkt k hk), inm (by simp [HouseD.mut]) h.hu (fun _ z => nomatch z), h.ne⟩
  · have := L.hb
    rw [← z, hb.hsh] at this
    cases this
  · have := L.hp
    rw [← z, hb.hsh] at this
    have e := HO.dK.inj (Option.some.inj this)
    unfold BookD.shelves psKv at e
    cases ps with
    | nil => cases e
    | cons x xs =>
      have := congrArg Prod.snd (List.cons.inj e).1
      cases this
theorem LBk.frH {b pd td : Addr} {H H' : Hp} {F : List Addr} {ps : List (Str × Int)} {c : Int} (L : LBk H b pd td ps c) (f : FrT F H H') (nb : b ∉ F) (np : pd ∉ F) (nt : td ∉ F) : LBk H' b pd td ps c :=
  ⟨f _ _ L.hb (fun _ z => nomatch z) nb, f _ _ L.hp (fun _ z => nomatch z) np, f _ _ L.ht (fun _ z => nomatch z) nt, L.nd, L.ne⟩
theorem mut_un {d : HouseD} {u x : Addr} {H : Hp} {o : HO} (hx : H x = some o) (nt : ∀ ps, o ≠ .tbl ps) (hu : Nw H u) (h : x ∉ d.mut) : x ∉ ({ d with un := u } : HouseD).mut := fun z => by
  have hne : x ≠ u := fun e => by
    obtain ⟨ps, hp⟩ := hu o (e ▸ hx)
    exact nt ps hp
  simp only [HouseD.mut, List.mem_cons, not_or] at h z
  rcases z with z | z | z | z
  · exact h.1 z
  · exact h.2.1 z
  · exact hne z
  · exact h.2.2.2 z
theorem te_callX2 {sp : Sp} {dvs : List V} {E : XK} {ta : TA} {Q : VK} {σ : L2.St} {H : Hp} (k : ta σ H fun vs H1 => sp (vs ++ dvs) H1 Q E) : tCall sp dvs E ta σ H Q := k
theorem q_ifX2 {te : TE} {tA tz : TS} {D : Ends} {σ : L2.St} {H : Hp} (k : te σ H fun r H1 => ∃ c, r = .bl c ∧ (if (!c) = true then tA { D with nx := tz D } σ H1 else tz D σ H1)) : tSeq (tIfS (tNot (tB te)) tA tNext) tz D σ H := k
theorem tup_at {ta : TA} {Q : VK} {σ : L2.St} {H : Hp} (k : ta σ H fun xs H1 => xs.length ≤ sizeLine ∧ ∀ p, H1 p = none → Q (.ref p) (upd H1 p (.tup xs))) : tTup ta σ H Q := k
theorem HouseAt.notT {CH CB : Addr} {H : Hp} {d : HouseD} {M : HouseM} (h : HouseAt CH CB H d M) : ∀ x ∈ d.mut, ∀ o, H x = some o → (∀ ps, o ≠ .tbl ps) ∧ ∀ c q, o ≠ LamX.CodeO c q := fun x hx o ho => by
  simp only [HouseD.mut, BookD.mut, List.mem_cons, List.not_mem_nil, or_false] at hx
  rcases hx with rfl | rfl | rfl | rfl | rfl | rfl | rfl
  · rw [h.hh] at ho; cases ho; exact ⟨(fun _ z => nomatch z), fun c q z => by unfold LamX.CodeO at z; cases z⟩
  · rw [h.hk] at ho; cases ho; exact ⟨(fun _ z => nomatch z), fun c q z => by unfold LamX.CodeO at z; cases z⟩
  · rw [h.hu] at ho; cases ho; exact ⟨(fun _ z => nomatch z), fun c q z => by unfold LamX.CodeO at z; cases z⟩
  · rw [h.hb.hms] at ho; cases ho; exact ⟨(fun _ z => nomatch z), fun c q z => by unfold LamX.CodeO at z; cases z⟩
  · rw [h.hb.hts] at ho; cases ho; exact ⟨(fun _ z => nomatch z), fun c q z => by unfold LamX.CodeO at z; cases z⟩
  · rw [h.hb.hss] at ho; cases ho; exact ⟨(fun _ z => nomatch z), fun c q z => by unfold LamX.CodeO at z; cases z⟩
  · rw [h.hb.htr] at ho; cases ho; exact ⟨(fun _ z => nomatch z), fun c q z => by unfold LamX.CodeO at z; cases z⟩
theorem LBk.notT {H : Hp} {b pd td : Addr} {ps : List (Str × Int)} {c : Int} (h : LBk H b pd td ps c) : ∀ x ∈ [b, pd], ∀ o, H x = some o → (∀ ps, o ≠ .tbl ps) ∧ ∀ c q, o ≠ LamX.CodeO c q := fun x hx o ho => by
  simp only [List.mem_cons, List.not_mem_nil, or_false] at hx
  rcases hx with rfl | rfl
  · rw [h.hb] at ho; cases ho; exact ⟨(fun _ z => nomatch z), fun c q z => by unfold LamX.CodeO at z; cases z⟩
  · rw [h.hp] at ho; cases ho; exact ⟨(fun _ z => nomatch z), fun c q z => by unfold LamX.CodeO at z; cases z⟩
def words7 : List Str := ["enter", "bring", "take", "part", "bring", "enter", "take"]
theorem ev_opUx {r : V → V → Hp → VK → Prop} {ta tb : TE} {σ : L2.St} {H : Hp} {x v : V} {xs : List V} (h1 : Ev ta σ H x) (h2 : EvU tb σ H xs) (hr : ∀ p H1, Ex H H1 → H1 p = some (.tup xs) → RV r x (.ref p) H1 v) : Ev (tOp r ta tb) σ H v := fun H0 e0 Q q =>
  h1 H0 e0 _ fun H1 e1 => h2 H1 (e0.trans e1) _ fun p H2 _ e2 hp => hr p H2 ((e0.trans e1).trans e2) hp H2 (Ex.refl _) Q fun H3 e3 => q H3 ((e1.trans e2).trans e3)
section
variable {P : Program} {w : World} {K : PySem.W.Frag} {mg : Str → Option Value} {base : Heap}
/-- what stands between two steps -/
structure LInv (T : Top K mg) (K' : PySem.W.Frag) (p pw b pd td : Addr) (rows : List Int) (ws : List Str) (i : Nat) (H : Hp) (d : HouseD) (M : HouseM) : Prop where
  hp : H p = some (.lst (rows.map V.int))
  hw : H pw = some (.lst (ws.map V.str))
  hH : HouseAt T.f_House T.f_Books H d M
  hL : LBk H b pd td M.bk.ps M.bk.brought
  good : BGood M.bk i
  kept : M.kept.length ≤ i
  out : ∀ x ∈ [p, pw, b, pd, td], x ∉ d.mut
  tabs : LamX.Tabs T.tabs H
  nbp : p ≠ b ∧ pw ≠ b
theorem LInv.ex {T : Top K mg} {p pw b pd td : Addr} {rows : List Int} {ws : List Str} {i : Nat} {H H' : Hp} {d : HouseD} {M : HouseM} (h : LInv T K p pw b pd td rows ws i H d M) (e : Ex H H') : LInv T K p pw b pd td rows ws i H' d M := ⟨e _ _ h.hp, e _ _ h.hw, h.hH.ex e, h.hL.ex e, h.good, h.kept, h.out, h.tabs.ext e, h.nbp⟩
theorem LInv.exN {T : Top K mg} {p pw b pd td : Addr} {rows : List Int} {ws : List Str} {i : Nat} {H H' : Hp} {d : HouseD} {M : HouseM} (h : LInv T K p pw b pd td rows ws i H d M) (e : LamX.ExtN H H') (t : LamX.Tabs T.tabs H') : LInv T K p pw b pd td rows ws i H' d M := ⟨exN_l e h.hp, exN_l e h.hw, h.hH.exN e, h.hL.exN e, h.good, h.kept, h.out, t, h.nbp⟩
def spLaw (K : PySem.W.Frag) (T : List (Addr × Str)) : Sp := fun vs H Q _ => ∃ (a : Addr) (ns : List Int), vs = [.ref a] ∧ SqL K H a (ns.map V.int) ∧ ns.length ≤ 63 ∧ LamX.Tabs T H ∧ ∀ H', Q (.bl true) H'
theorem te_sameH {T : Top K mg} {p pw b pd td : Addr} {rows : List Int} {ws : List Str} {i : Nat} {H : Hp} {d : HouseD} {M : HouseM} {σ : L2.St} {E E1 E2 : XK} {Q : VK} (h : LInv T K p pw b pd td rows ws i H d M) (hi : i ≤ 100) (h3 : σ[3]? = some (some (.ref d.h))) (h4 : σ[4]? = some (some (.ref b)))
    (k : ∀ H', LInv T K p pw b pd td rows ws i H' d M → LamX.ExtN H H' → Q (.bl true) H') : tCall (spSame K 3) [] E (tCons (tCall (spSeen K T.tabs T.f_House T.f_Books) [] E1 (tCons (tVar 3) tNil)) (tCons (tCall (spDue K) [] E2 (tCons (tVar 4) tNil)) tNil)) σ H Q := by
  refine te_callX2 (ta_at (te_call (ea_cons (ev_var h3) ea_nil) fun H1 e1 => ?_))
  have hm : M.bk.mems.length ≤ 1000 := by have := h.good.2.2.2.1; omega
  have hps : M.bk.ps.length ≤ 1000 := by unfold BookM.ps; rw [List.length_map]; exact hm
  refine ⟨d, M, rfl, h.hH.ex e1, h.good.1, hm, h.good.2.1, h.tabs.ext e1, fun H2 v eN T2 hv => ?_⟩
  have g2 := (h.ex e1).exN eN T2
  refine ta_at (te_call (ea_cons (ev_var h4) ea_nil) fun H3 e3 => ?_)
  refine ⟨b, pd, td, M.bk.ps, M.bk.brought, rfl, g2.hL.ex e3, hps, fun H4 v2 e4 hv2 => ?_⟩
  refine ⟨v, v2, dueD M.bk.ps M.bk.brought, rfl, pl_due hps, dp_ex (e3.trans e4) hv, hv2, fun H5 e5 => k H5 (g2.ex ((e3.trans e4).trans e5)) (((exN_of e1).trans eN).trans (exN_of ((e3.trans e4).trans e5)))⟩
theorem ev_member {T : Top K mg} {p pw b pd td : Addr} {rows : List Int} {ws : List Str} {i : Nat} {H : Hp} {d : HouseD} {M : HouseM} (h : LInv T K p pw b pd td rows ws i H d M) (nm : Str) : (valV (psKv M.bk.ps) (.inr nm)).isSome = (M.bk.mem? nm).isSome := by
  rw [valV_bk, Option.isSome_map]
set_option maxHeartbeats 4000000 in
theorem ok_law {f : Addr} {fd : FuncData} (F : Fun K "law" "law" s_law f fd) (T : Top K mg) (TB1 : LamX.TabB base mg T.c_Books_member_names T.P_Books_member_names) (DF_ACTIONS : ModD K w.params T.f_ACTIONS (actKv T)) : FnOk P w K mg base CX0 10 f fd ["_law_script"] (spLaw K T.tabs) := by
  have nd := sc_law.nd
  have G__law_draws : FnOk P w K mg base CX0 1 T.f__law_draws T.fd__law_draws ["_law_script", "_law_many"] (spDraws K) := ok__law_draws T.F__law_draws T
  have G__law_names : FnOk P w K mg base CX0 1 T.f__law_names T.fd__law_names ["_law_some", "_law_many"] (spNames K) := ok__law_names T.F__law_names T
  have G_House___init__ := ok_House_init (P := P) (w := w) (base := base) T
  have G__law_same : FnOk P w K mg base CX0 4 T.f__law_same T.fd__law_same ["_law_told", "_law_due_here"] (spSame K 3) := ok__law_same T 3
  have G__law_seen := ok__law_seen (P := P) (w := w) (base := base) T TB1
  have G__law_due := ok__law_due (P := P) (w := w) (base := base) T
  have G__law_named := ok__law_named (P := P) (w := w) (base := base) T
  have G__law_marks := ok__law_marks (P := P) (w := w) (base := base) T
  have G__law_member_deed := ok__law_member_deed (P := P) (w := w) (base := base) T
  have G__law_done := ok__law_done (P := P) (w := w) (base := base) T DF_ACTIONS
  have G__law_missing := ok__law_missing (P := P) (w := w) (base := base) T
  refine F.ok sc_law (fun vs H Q E h => ?_) (fun cdv A outer s H vs Q E hr h => ?_)
  · obtain ⟨a, ns, rfl, _⟩ := h
    rfl
  · obtain ⟨a, ns, rfl, hS, hlen, hT, q⟩ := h
    refine ⟨_, (pss_cons (ps_set (i := 1) nd rfl (.inl rfl) (pe_call G__law_draws (hr.mono (by omega)) (by rfl) T.m__law_draws T.F__law_draws.kp T.b__law_draws .nil pass0 (pa_cons (pv 0) (pa_cons pe_int pa_nil))))
      (pss_cons (ps_set (i := 2) nd rfl (.inl rfl) (pe_call G__law_names (hr.mono (by omega)) (by rfl) T.m__law_names T.F__law_names.kp T.b__law_names .nil pass0 (pa_cons (pv 1) (pa_cons pe_int pa_nil))))
      (pss_cons (ps_set (i := 3) nd rfl (.inl rfl) (pe_make0 T.mk_House G_House___init__ (hr.mono (by omega)) (by rfl) T.m_House T.b_House___init__ .nil pass0 ))
      (pss_cons (ps_set (i := 4) nd rfl (.inl rfl) (pe_lst (pa_cons pe_dnewK (pa_cons pe_dnewK (pa_cons pe_int pa_nil)))))
      (pss_cons (ps_if (pt_not (pt_val (pe_call G__law_same (hr.mono (by omega)) (by rfl) T.m__law_same T.F__law_same.kp T.b__law_same .nil pass0 (pa_cons (pe_call G__law_seen (hr.mono (by omega)) (by rfl) T.m__law_seen T.F__law_seen.kp T.b__law_seen .nil pass0 (pa_cons (pv 3) pa_nil)) (pa_cons (pe_call G__law_due (hr.mono (by omega)) (by rfl) T.m__law_due T.F__law_due.kp T.b__law_due .nil pass0 (pa_cons (pv 4) pa_nil)) pa_nil)))))
        (pss_one (ps_ret pe_bl))
        pss_nil)
      (pss_cons (ps_for PassesOwn.never rfl (pi_range1 rfl T.m_range (pa_cons (pe_op op_mod (pe_ix ix_list (pv 1) pe_int (fun _ _ => rfl)) pe_int) pa_nil)) (pg_name (i := 5) nd rfl (.inl rfl))
        (pss_cons (ps_set (i := 6) nd rfl (.inl rfl) (pe_ix ix_list (pv 1) (pe_op op_add pe_int (pe_op op_mul pe_int (pv 5))) (fun _ _ => rfl)))
          (pss_cons (ps_set (i := 7) nd rfl (.inl rfl) (pe_ix ix_list (pv 1) (pe_op op_add pe_int (pe_op op_mul pe_int (pv 5))) (fun _ _ => rfl)))
          (pss_cons (ps_set (i := 8) nd rfl (.inl rfl) (pe_ix ix_list (pe_lst (pa_cons pe_str (pa_cons pe_str (pa_cons pe_str (pa_cons pe_str (pa_cons pe_str (pa_cons pe_str (pa_cons pe_str pa_nil)))))))) (pe_op op_mod (pv 6) pe_int) (fun _ _ => rfl)))
          (pss_cons (ps_set (i := 9) nd rfl (.inl rfl) (pe_tup (pa_cons (pv 8) (pa_cons (pe_call G__law_named (hr.mono (by omega)) (by rfl) T.m__law_named T.F__law_named.kp T.b__law_named .nil pass0 (pa_cons (pv 2) (pa_cons (pe_op op_fdiv (pv 6) pe_int) pa_nil))) pa_nil))))
          (pss_cut (ps_if (pt_cmpR op_in_seq (pv 8) (pe_tup (pa_cons pe_str (pa_cons pe_str pa_nil))) rfl)
            (pss_cons (ps_set (i := 10) nd rfl (.inl rfl) (pe_ix ix_list (pe_lst (pa_cons pe_int (pa_cons pe_int (pa_cons (pe_op op_add pe_int (pe_op op_mod (pv 7) pe_int)) (pa_cons (pe_op op_add pe_int (pe_op op_mod (pv 7) pe_int)) (pa_cons pe_int (pa_cons (pe_un un_neg pe_int) (pa_cons pe_int pa_nil)))))))) (pe_op op_mod (pe_op op_fdiv (pv 7) pe_int) pe_int) (fun _ _ => rfl)))
              (pss_one (ps_set (i := 9) nd rfl (.inl rfl) (pe_tup (pa_cons (pv 8) (pa_cons (pe_ix ix_tup (pv 9) pe_int (fun _ _ => rfl)) (pa_cons (pv 10) pa_nil)))))))
            pss_nil)
          (pss_cons (ps_set (i := 11) nd rfl (.inl rfl) (pe_call G__law_marks (hr.mono (by omega)) (by rfl) T.m__law_marks T.F__law_marks.kp T.b__law_marks .nil pass0 (pa_cons (pe_call G__law_member_deed (hr.mono (by omega)) (by rfl) T.m__law_member_deed T.F__law_member_deed.kp T.b__law_member_deed .nil pass0 (pa_cons (pv 4) (pa_cons (pv 9) pa_nil))) pa_nil)))
          (pss_cons (ps_asg (pe_call G__law_done (hr.mono (by omega)) (by rfl) T.m__law_done T.F__law_done.kp T.b__law_done .nil pass0 (pa_cons (pv 3) (pa_cons (pv 9) pa_nil))) (pg_tup rfl (pgs_cons (pg_name (i := 12) nd rfl (.inl rfl)) (pgs_cons (pg_name (i := 13) nd rfl (.inl rfl)) pgs_nil))))
          (pss_cons (ps_if (PW.pt (pw_or (pt_cmpR (op_neD hr.units) (pv 13) (pv 11) (nomark _)) (pw_or1 (pt_cmpR op_notN (pv 12) pe_non (nomark _)))))
            (pss_one (ps_ret pe_bl))
            pss_nil)
          (pss_cons (ps_if (PW.pt (pw_and (pt_cmpR op_eq (pe_op op_mod (pe_ix ix_list (pv 1) pe_int (fun _ _ => rfl)) pe_int) pe_int (nomark _)) (pw_and1 (pt_cmpR op_lt (pe_op op_mod (pv 5) pe_int) pe_int (nomark _)))))
            (pss_one ps_continue)
            pss_nil)
          (pss_cons (ps_if (pt_not (pt_val (pe_call G__law_same (hr.mono (by omega)) (by rfl) T.m__law_same T.F__law_same.kp T.b__law_same .nil pass0 (pa_cons (pe_call G__law_seen (hr.mono (by omega)) (by rfl) T.m__law_seen T.F__law_seen.kp T.b__law_seen .nil pass0 (pa_cons (pv 3) pa_nil)) (pa_cons (pe_call G__law_due (hr.mono (by omega)) (by rfl) T.m__law_due T.F__law_due.kp T.b__law_due .nil pass0 (pa_cons (pv 4) pa_nil)) pa_nil)))))
            (pss_one (ps_ret pe_bl))
            pss_nil)
          (pss_one (ps_if (pt_cmpR op_ne (pe_call G__law_missing (hr.mono (by omega)) (by rfl) T.m__law_missing T.F__law_missing.kp T.b__law_missing .nil pass0 (pa_cons (pv 3) (pa_cons (pe_ix ix_tup (pv 9) pe_int (fun _ _ => rfl)) pa_nil))) (pe_cmp (pc_dnotin (hu_of hr) (pe_ix ix_tup (pv 9) pe_int (fun _ _ => rfl)) (pe_ix ix_list (pv 4) pe_int (fun _ _ => rfl)))) (nomark _))
            (pss_one (ps_ret pe_bl))
            pss_nil)))))))))))))
      (pss_one (ps_ret (pe_call G__law_same (hr.mono (by omega)) (by rfl) T.m__law_same T.F__law_same.kp T.b__law_same .nil pass0 (pa_cons (pe_call G__law_seen (hr.mono (by omega)) (by rfl) T.m__law_seen T.F__law_seen.kp T.b__law_seen .nil pass0 (pa_cons (pv 3) pa_nil)) (pa_cons (pe_call G__law_due (hr.mono (by omega)) (by rfl) T.m__law_due T.F__law_due.kp T.b__law_due .nil pass0 (pa_cons (pv 4) pa_nil)) pa_nil))))))))))), ?_⟩
    refine q_callN (by walk_at "ea") (spN_draws (m := 62) hS hlen (by decide)) ?_
    rintro _ p H1 ⟨rows, hR, rfl⟩ hp e1 h1
    have hl := hR.1
    refine q_asgX (te_call (ea_cons (ev_var rfl) (ea_cons ev_c ea_nil)) fun H2 e2 => ⟨p, rows, 4, rfl, sq_of (e2 _ _ h1), by omega, by decide, hR.2.2, fun ws H3 pw hpw e3 hw hwl _ hwok0 => ?_⟩)
    have hwok : ∀ z ∈ ws, z.length ≤ 12 := fun z hz => by
      have := (hwok0 z hz).2.1
      unfold tl at this
      rwa [Array.length_toList] at this
    clear hwok0
    have h3 := (e2.trans e3) _ _ h1
    have T3 := hT.ext (e1.trans (e2.trans e3))
    dsimp only
    have e13 := e2.trans e3
    have npw : pw ≠ p := fun z => by
      have := fresh_back e2 hpw
      rw [z, h1] at this
      cases this
    refine q_asgX (te_makeX fun x y hx hy hyx => ?_)
    refine ⟨x, y, rfl, upd_same, fun H4 d hdh f4 hfr hH4 => ⟨rfl, ?_⟩⟩
    have eN4 : ∀ {a : Addr} {o : HO}, H3 a = some o → H4 a = some o := fun {a o} ha => by
      have nx : a ≠ x := fun z => by rw [z, hx] at ha; cases ha
      have ny : a ≠ y := fun z => by rw [z, hy] at ha; cases ha
      refine f4 a o ?_ (by simpa using nx)
      rw [upd_ne nx, upd_ne ny]
      exact ha
    have E4 : Ex H3 H4 := fun a o ha => eN4 ha
    have old : ∀ {a : Addr} {o : HO}, H3 a = some o → a ∉ d.mut := fun {a o} ha z => by
      rcases List.mem_cons.mp z with z | z
      · rw [z, hdh, hx] at ha
        cases ha
      · have h0 := hfr a z
        by_cases nx : a = x
        · rw [nx, hx] at ha
          cases ha
        · by_cases ny : a = y
          · rw [ny, hy] at ha
            cases ha
          · rw [upd_ne nx, upd_ne ny, ha] at h0
            cases h0
    subst hdh
    refine q_asgX (lst_at (ta_at (fun pd hpd => ta_at (fun td htd => ta_at' ev_c fun H5 e5 => ?_))))
    refine ⟨sz_of (by show 3 ≤ 100000; decide), fun b hb => ?_⟩
    have E5 : Ex H4 H5 := ((Ex.new hpd).trans (Ex.new htd)).trans e5
    have npt : pd ≠ td := fun z => by rw [← z, upd_same] at htd; cases htd
    have hpd5 : H5 pd = some (.dK []) := e5 _ _ ((Ex.new htd) _ _ upd_same)
    have htd5 : H5 td = some (.dK []) := e5 _ _ upd_same
    have E6 : Ex H4 (upd H5 b (.lst [.ref pd, .ref td, .int 0])) := E5.trans (Ex.new hb)
    have nbx : ∀ {a : Addr} {o : HO}, H5 a = some o → a ≠ b := fun {a o} ha z => by rw [z, hb] at ha; cases ha
    have h4p := E4 _ _ h3
    have h4w := E4 _ _ hw
    have hnew : ∀ {a : Addr}, H4 a = none → a ∉ d.mut := fun {a} ha z => by
      obtain ⟨o, ho⟩ := hH4.mut_old z
      rw [ha] at ho
      cases ho
    have inv0 : LInv T K p pw b pd td rows ws 0 (upd H5 b (.lst [.ref pd, .ref td, .int 0])) d ⟨book0, [], []⟩ := by
      refine ⟨E6 _ _ h4p, E6 _ _ h4w, hH4.ex E6, ⟨upd_same, (Ex.new hb) _ _ hpd5, (Ex.new hb) _ _ htd5, List.nodup_nil, npt⟩, ⟨rfl, List.Pairwise.nil, (fun m hm => absurd hm List.not_mem_nil), Nat.le_refl _, Nat.le_refl _⟩, Nat.le_refl _, fun a ha => ?_, T3.ext (E4.trans E6), nbx (E5 _ _ h4p), nbx (E5 _ _ h4w)⟩
      simp only [List.mem_cons, List.not_mem_nil, or_false] at ha
      rcases ha with rfl | rfl | rfl | rfl | rfl
      · exact old h3
      · exact old hw
      · exact hnew (fresh_back E5 hb)
      · exact hnew hpd
      · exact hnew (fresh_back (Ex.new hpd) htd)
    generalize upd H5 b (.lst [.ref pd, .ref td, .int 0]) = H6 at inv0
    generalize (⟨book0, [], []⟩ : HouseM) = M0 at inv0
    clear hH4 hx hy f4 hfr E4 eN4 E5 E6 hpd5 htd5 hb e5 htd hpd old hnew h4p h4w nbx hpw e2 e3 e13 hw h3 T3
    refine q_ifX2 (te_sameH inv0 (by decide) rfl rfl fun H7 inv1 eN7 => ⟨true, rfl, ?_⟩)
    dsimp only
    have zlt : ∀ j : Nat, j < 62 → -(10 ^ 18) < rows.getD j 0 ∧ rows.getD j 0 < 10 ^ 18 := fun j hj => hR.2.2 _ (by
      rw [List.getD_eq_getElem?_getD, List.getElem?_eq_getElem (by omega)]
      exact List.getElem_mem _)
    have r4 : atI (rows.map V.int) 4 = some (.int (rows.getD (Int.toNat 4) 0)) := Su.at_rows (by omega) (by omega)
    have r5 : atI (rows.map V.int) 5 = some (.int (rows.getD (Int.toNat 5) 0)) := Su.at_rows (by omega) (by omega)
    generalize rows.getD (Int.toNat 4) 0 = z4 at r4
    generalize rows.getD (Int.toNat 5) 0 = z5 at r5
    refine q_forR1 (n := z4 % 19) (ea_cons (ev_op (ev_op (ev_var rfl) ev_c (rv_ixL (sq_of inv1.hp) r4)) ev_c (rv_mod (by decide))) ea_nil) (by omega) (fun i σ' H' => ∃ (d' : HouseD) (M : HouseM) (y5 y6 y7 y8 y9 y10 y11 y12 y13 : Option V), σ' = [some (.ref a), some (.ref p), some (.ref pw), some (.ref d'.h), some (.ref b), y5, y6, y7, y8, y9, y10, y11, y12, y13] ∧ LInv T K p pw b pd td rows ws i H' d' M) ?_ ?_ ?_
    · intro H8 e8
      exact ⟨d, M0, none, none, none, none, none, none, none, none, none, rfl, inv1.ex e8⟩
    · rintro i σ' H8 hi ⟨d', M, y5, y6, y7, y8, y9, y10, y11, y12, y13, rfl, inv8⟩
      have hi18 : i < 18 := by omega
      have at6 : atI (rows.map V.int) (6 + 3 * (i : Int)) = some (.int (rows.getD (6 + 3 * (i : Int)).toNat 0)) := Su.at_rows (by omega) (by omega)
      have at7 : atI (rows.map V.int) (7 + 3 * (i : Int)) = some (.int (rows.getD (7 + 3 * (i : Int)).toNat 0)) := Su.at_rows (by omega) (by omega)
      have bd : ∀ j : Nat, -(10 ^ 18) < rows.getD j 0 ∧ rows.getD j 0 < 10 ^ 18 := fun j => by
        rw [List.getD_eq_getElem?_getD]
        by_cases hj : j < rows.length
        · rw [List.getElem?_eq_getElem hj]
          exact hR.2.2 _ (List.getElem_mem hj)
        · rw [List.getElem?_eq_none (by omega)]
          show -(10 ^ 18) < (0 : Int) ∧ (0 : Int) < 10 ^ 18
          omega
      have b6 := bd (6 + 3 * (i : Int)).toNat
      have b7 := bd (7 + 3 * (i : Int)).toNat
      generalize rows.getD (6 + 3 * (i : Int)).toNat 0 = x6 at at6 b6
      generalize rows.getD (7 + 3 * (i : Int)).toNat 0 = x7 at at7 b7
      refine q_asg (ev_op (ev_var rfl) (ev_op ev_c (ev_op ev_c (ev_var rfl) (rv_mul (CMul.r (by omega) (by omega)))) rv_I0) (rv_ixL (sq_of inv8.hp) at6)) fun H9 e9 => ?_
      have inv9 := inv8.ex e9
      refine q_asg (ev_op (ev_var rfl) (ev_op ev_c (ev_op ev_c (ev_var rfl) (rv_mul (CMul.r (by omega) (by omega)))) rv_I0) (rv_ixL (sq_of inv9.hp) at7)) fun H10 e10 => ?_
      have inv10 := inv9.ex e10
      obtain ⟨wd, hwd⟩ : ∃ wd, words7[(x6 % 7).toNat]? = some wd := ⟨_, List.getElem?_eq_getElem (by show _ < 7; omega)⟩
      refine q_asg (v := .str wd) (ev_ixN (xs := words7.map V.str) (z := x6 % 7) (el_lst (ea_cons ev_c (ea_cons ev_c (ea_cons ev_c (ea_cons ev_c (ea_cons ev_c (ea_cons ev_c (ea_cons ev_c ea_nil))))))) (by show 7 ≤ 100000; decide)) (ev_op (ev_var rfl) ev_c (rv_mod (by decide))) (at_of (j := (x6 % 7).toNat) (by omega) (by rw [List.getElem?_map, hwd]; rfl))) fun H11 e11 => ?_
      have inv11 := inv10.ex e11
      have hwm : wd = "enter" ∨ wd = "bring" ∨ wd = "take" ∨ wd = "part" := by
        have := List.mem_of_getElem? hwd
        simp only [words7, List.mem_cons, List.not_mem_nil, or_false] at this
        rcases this with h | h | h | h | h | h | h
        · exact .inl h
        · exact .inr (.inl h)
        · exact .inr (.inr (.inl h))
        · exact .inr (.inr (.inr h))
        · exact .inr (.inl h)
        · exact .inl h
        · exact .inr (.inr (.inl h))
      refine q_asgX (tup_at (ta_at' (ev_var rfl) fun Ha ea => ta_at (te_call (ea_cons (ev_var rfl) (ea_cons (ev_op (z := .int (x6 / 7)) (ev_var rfl) ev_c (by walk_at "rv")) ea_nil)) fun Hb eb => ⟨pw, ws, x6 / 7, rfl, ((inv11.ex ea).ex eb).hw, hwl, hwok, fun nm Hc hnm ec => ⟨sz_of (by show 2 ≤ 100000; decide), fun r hrn => ?_⟩⟩)))
      have e12 : Ex H11 (upd Hc r (.tup [.str wd, .str nm])) := ((ea.trans eb).trans ec).trans (Ex.new hrn)
      have gr0 : (upd Hc r (.tup [.str wd, .str nm])) r = some (.tup [.str wd, .str nm]) := upd_same
      generalize upd Hc r (.tup [.str wd, .str nm]) = H12 at e12 gr0
      have inv12 := inv11.ex e12
      refine q_cut (M := fun σ' H' => ∃ (r : Addr) (m : MD) (y10 : Option V), σ' = [some (.ref a), some (.ref p), some (.ref pw), some (.ref d'.h), some (.ref b), some (.int (i : Int)), some (.int x6), some (.int x7), some (.str wd), some (.ref r), y10, y11, y12, y13] ∧ Ex H12 H' ∧ H' r = some (.tup m.row) ∧ m.nm.length ≤ 40000) ?_ ?_
      · obtain ⟨cn, hcn⟩ : ∃ cn, ([1, 1000000000, 1 + x7 % 1000000000, 1 + x7 % 9, 0, -1, 1000000001] : List Int)[(x7 / 3 % 7).toNat]? = some cn := ⟨_, List.getElem?_eq_getElem (by show _ < 7; omega)⟩
        have coins : ∀ {σ : L2.St} {Hz : Hp}, σ[7]? = some (some (.int x7)) → Ev (tOp (rIxL K) (tLst (tCons (tC (.int 1)) (tCons (tC (.int 1000000000)) (tCons (tOp (rI0 fun i j => V.int (i + j)) (tC (.int 1)) (tOp (rI (fun x j => 0 < j) fun i j => V.int (i % j)) (tVar 7) (tC (.int 1000000000)))) (tCons (tOp (rI0 fun i j => V.int (i + j)) (tC (.int 1)) (tOp (rI (fun x j => 0 < j) fun i j => V.int (i % j)) (tVar 7) (tC (.int 9)))) (tCons (tC (.int 0)) (tCons (tUn (rU fun i => V.int (-i)) (tC (.int 1))) (tCons (tC (.int 1000000001)) tNil)))))))) (tOp (rI (fun x j => 0 < j) fun i j => V.int (i % j)) (tOp (rI CDiv fun i j => V.int (i / j)) (tVar 7) (tC (.int 3))) (tC (.int 7)))) σ Hz (.int cn) := fun h7 =>
          ev_ixN (xs := ([1, 1000000000, 1 + x7 % 1000000000, 1 + x7 % 9, 0, -1, 1000000001] : List Int).map V.int) (z := x7 / 3 % 7) (el_lst (ea_cons ev_c (ea_cons ev_c (ea_cons (ev_op ev_c (ev_op (ev_var h7) ev_c (rv_mod (by decide))) rv_I0) (ea_cons (ev_op ev_c (ev_op (ev_var h7) ev_c (rv_mod (by decide))) rv_I0) (ea_cons ev_c (ea_cons (ev_un ev_c fun H' _ _ q => ⟨1, rfl, q H' (Ex.refl H')⟩) (ea_cons ev_c ea_nil))))))) (by show 7 ≤ 100000; decide)) (ev_op (ev_op (z := .int (x7 / 3)) (ev_var h7) ev_c (by walk_at "rv")) ev_c (rv_mod (by decide))) (at_of (j := (x7 / 3 % 7).toNat) (by omega) (by rw [List.getElem?_map, hcn]; rfl))
        have test : ∀ {σ : L2.St} {Hz : Hp} {c : Bool}, σ[8]? = some (some (.str wd)) → inV (.str wd) [.str "bring", .str "take"] = c → EvT (tTest (tOp (rIn K false) (tVar 8) (tTup (tCons (tC (.str "bring")) (tCons (tC (.str "take")) tNil))))) σ Hz c := fun h8 hc => et_is (et_test (ev_opUx (ev_var h8) (eu_tup (ea_cons ev_c (ea_cons ev_c ea_nil)) (by show 2 ≤ 100000; decide)) fun p H e h => rv_isT (st_of h) rfl rfl)) hc
        have g1 : ∀ {Hz : Hp} {σ : L2.St}, Ex H12 Hz → σ[9]? = some (some (.ref r)) → Ev (tOp (rIxT K) (tVar 9) (tC (.int 1))) σ Hz (.str nm) := fun e h => ev_op (ev_var h) ev_c (rv_ixT (st_of (e _ _ gr0)) (atI_nat (j := 1) rfl))
        rcases hwm with rfl | rfl | rfl | rfl
        · refine s_when (b := false) (test rfl (by decide +kernel)) (fun hb => by cases hb) fun _ H13 e13 => ?_
          exact ⟨r, .enter nm, _, rfl, e13, e13 _ _ gr0, hnm⟩
        · refine s_when (b := true) (test rfl (by decide +kernel)) (fun _ H13 e13 => ?_) (fun hb => by cases hb)
          refine q_asg (coins rfl) fun H14 e14 => ?_
          refine s_asgU (eu_tup (ea_cons (ev_var rfl) (ea_cons (g1 (e13.trans e14) rfl) (ea_cons (ev_var rfl) ea_nil))) (by show 3 ≤ 100000; decide)) fun r2 H15 _ e15 h15 => ?_
          exact ⟨r2, .bring nm cn, _, rfl, (e13.trans e14).trans e15, h15, hnm⟩
        · refine s_when (b := true) (test rfl (by decide +kernel)) (fun _ H13 e13 => ?_) (fun hb => by cases hb)
          refine q_asg (coins rfl) fun H14 e14 => ?_
          refine s_asgU (eu_tup (ea_cons (ev_var rfl) (ea_cons (g1 (e13.trans e14) rfl) (ea_cons (ev_var rfl) ea_nil))) (by show 3 ≤ 100000; decide)) fun r2 H15 _ e15 h15 => ?_
          exact ⟨r2, .take nm cn, _, rfl, (e13.trans e14).trans e15, h15, hnm⟩
        · refine s_when (b := false) (test rfl (by decide +kernel)) (fun hb => by cases hb) fun _ H13 e13 => ?_
          exact ⟨r, .part nm, _, rfl, e13, e13 _ _ gr0, hnm⟩
      · clear gr0
        rintro _ H13 ⟨r, m, y10, rfl, e13, gr13, hmn⟩
        have inv13 := inv12.ex e13
        have a1 : atI m.row 1 = some (.str m.nm) := by cases m <;> exact atI_nat (j := 1) rfl
        have hsm : M.bk.mems.length < 49000 := by have := inv13.good.2.2.2.1; omega
        have hst : M.bk.trail.length < 49000 := by have := inv13.good.2.2.2.2; omega
        have hok : HouseOk M := ⟨inv13.good.1, ⟨hsm, hst⟩, by have := inv13.kept; omega⟩
        refine q_asgX (te_callX2 (ta_at (te_call (ea_cons (ev_var rfl) (ea_cons (ev_var rfl) ea_nil)) fun Ha ea => ⟨b, pd, td, M.bk, r, m, rfl, ea _ _ gr13, (inv13.ex ea).hL, hmn, hsm, fun c hc Hb eb => ?_, fun hc Hb fb hLb => ?_⟩)))
        · refine ⟨c, rfl, fun H14 pm hpm e14 gpm0 => ?_⟩
          have e134 := (ea.trans eb).trans e14
          have inv14 := inv13.ex e134
          refine q_asgXg (te_call (ea_cons (ev_var rfl) (ea_cons (ev_var rfl) ea_nil)) fun H15 e15 => ⟨d', M, r, m, rfl, e15 _ _ (e134 _ _ gr13), (inv14.ex e15).hH, hmn, hok, fun c2 hc2 H17 q17 mk e17 gq gmk => ?_, fun hc2 => by rw [hc] at hc2; cases hc2⟩)
          obtain rfl : c2 = c := Option.some.inj (hc2.symm.trans hc)
          have inv17 : LInv T K p pw b pd td rows ws (i + 1) H17 d' M := by
            have h := (inv14.ex e15).ex e17
            exact ⟨h.hp, h.hw, h.hH, h.hL, ⟨h.good.1, h.good.2.1, h.good.2.2.1, by have := h.good.2.2.2.1; omega, by have := h.good.2.2.2.2; omega⟩, by have := h.kept; omega, h.out, h.tabs, h.nbp⟩
          have gpm := (e15.trans e17) _ _ gpm0
          have gr := (e15.trans e17) _ _ (e134 _ _ gr13)
          refine tg_two (st_of gq) tg_name tg_name H17 (Ex.refl _) _ ?_
          refine q_skip (et_is (et_or (a := false) (b := false) (et_test (ev_op (ev_var rfl) (ev_var rfl) (rv_neD (dp_bools (sq_of gmk)) (dp_bools (sq_of gpm)) (shaped_bools _)))) fun _ => et_test (ev_op (ev_var rfl) ev_c rv_notN)) rfl) fun H18 e18 => ?_
          have inv18 := inv17.ex e18
          have gr18 := e18 _ _ gr
          refine q_when (et_and (et_test (ev_op (ev_op (ev_op (ev_var rfl) ev_c (rv_ixL (sq_of inv18.hp) r5)) ev_c (rv_mod (by decide))) ev_c (rv_eq rfl))) fun _ => et_test (ev_op (ev_op (ev_var rfl) ev_c (rv_mod (by decide))) ev_c rv_I0)) (fun hb H19 e19 => ?_) (fun hb H19 e19 => ?_)
          · exact ⟨d', _, _, _, _, _, _, _, _, _, _, rfl, inv18.ex e19⟩
          have inv19 := inv18.ex e19
          refine q_ifX2 (te_sameH inv19 (by omega) rfl rfl fun H20 inv20 eN20 => ⟨true, rfl, ?_⟩)
          have gr20 : H20 r = some (.tup m.row) := eN20 _ _ (e19 _ _ gr18) (fun _ z => nomatch z)
          refine s_when (b := false) (et_is (et_test (ev_op (ev_call (z := .bl (M.bk.mem? m.nm).isNone) (ea_cons (ev_var rfl) (ea_cons (ev_op (ev_var rfl) ev_c (rv_ixT (st_of gr20) a1)) ea_nil)) fun H21 e21 Q1 q1 _ => ⟨d', _, m.nm, rfl, inv20.hH.ex e21, q1⟩) (ev_dnin (k := .inr m.nm) (ev_op (ev_var rfl) ev_c (rv_ixT (st_of gr20) a1)) (ev_op (ev_var rfl) ev_c (rv_ixL (sq_of inv20.hL.hb) (atI_nat (j := 0) rfl))) inv20.hL.hp) (rv_ne rfl))) (by
            rw [ev_member inv20]
            cases M.bk.mem? m.nm <;> rfl)) (fun hb => by cases hb) fun _ H22 e22 => ?_
          exact ⟨d', _, _, _, _, _, _, _, _, _, _, rfl, inv20.ex e22⟩
        · refine ⟨"", rfl, fun H14 pm hpm e14 gpm0 => ?_⟩
          have ob : b ∉ d'.mut := inv13.out b (by simp)
          have opd : pd ∉ d'.mut := inv13.out pd (by simp)
          have otd : td ∉ d'.mut := inv13.out td (by simp)
          have inva := inv13.ex ea
          have hHb := inva.hH.frB inva.hL fb ob opd
          have npd : ∀ {x xs}, Ha x = some (.lst xs) → x ≠ pd := fun {x xs} hx z => by rw [z, inva.hL.hp] at hx; cases hx
          have gpb : Hb p = some (.lst (rows.map V.int)) := fb _ _ inva.hp (fun _ z => nomatch z) (by simp [inva.nbp.1, npd inva.hp])
          have gwb : Hb pw = some (.lst (ws.map V.str)) := fb _ _ inva.hw (fun _ z => nomatch z) (by simp [inva.nbp.2, npd inva.hw])
          have grb : Hb r = some (.tup m.row) := fb _ _ (ea _ _ gr13) (fun _ z => nomatch z) (by
            have n1 : r ≠ b := fun z => by have h := ea _ _ gr13; rw [z, inva.hL.hb] at h; cases h
            have n2 : r ≠ pd := fun z => by have h := ea _ _ gr13; rw [z, inva.hL.hp] at h; cases h
            simp [n1, n2])
          have tb : LamX.Tabs T.tabs Hb := tabs_frT inva.tabs fb inva.hL.notT
          refine q_asgXg (te_call (ea_cons (ev_var rfl) (ea_cons (ev_var rfl) ea_nil)) fun H15 e15 => ⟨d', M, r, m, rfl, (e14.trans e15) _ _ grb, hHb.ex (e14.trans e15), hmn, hok, (fun c2 hc2 => by rw [hc] at hc2; cases hc2), fun _ H17 u bk r' pk q17 mk f17 hu hH17 haf gq gmk => ?_⟩)
          have e145 := e14.trans e15
          obtain ⟨hg, hps, hbr⟩ := af_good inv13.good inv13.hH.hb.nd haf
          have gpm : H17 pm = some (.lst ((marksOf "").map V.bl)) := f17 _ _ (e15 _ _ gpm0) (fun _ z => nomatch z) (fun z => by
            obtain ⟨o, ho⟩ := hHb.mut_old z
            rw [hpm] at ho
            cases ho)
          have gr : H17 r = some (.tup m.row) := f17 _ _ (e145 _ _ grb) (fun _ z => nomatch z) (fun z => by
            simp only [HouseD.mut, BookD.mut, List.mem_cons, List.not_mem_nil, or_false] at z
            rcases z with rfl | rfl | rfl | rfl | rfl | rfl | rfl
            · rw [hHb.hh] at grb; cases grb
            · rw [hHb.hk] at grb; cases grb
            · rw [hHb.hu] at grb; cases grb
            · rw [hHb.hb.hms] at grb; cases grb
            · rw [hHb.hb.hts] at grb; cases grb
            · rw [hHb.hb.hss] at grb; cases grb
            · rw [hHb.hb.htr] at grb; cases grb)
          have op : p ∉ d'.mut := inv13.out p (by simp)
          have ow : pw ∉ d'.mut := inv13.out pw (by simp)
          have hL17 := (hLb.ex e145).frH f17 ob opd otd
          have inv17 : LInv T K p pw b pd td rows ws (i + 1) H17 { d' with un := u } { bk := bk, kept := M.kept ++ [⟨pk, .ref r', M.bk.trail.length⟩], undone := [] } := by
            refine ⟨f17 _ _ (e145 _ _ gpb) (fun _ z => nomatch z) op, f17 _ _ (e145 _ _ gwb) (fun _ z => nomatch z) ow, hH17, ?_, hg, ?_, fun x hx => ?_, tabs_frT (tb.ext e145) f17 (hHb.ex e145).notT, inv13.nbp⟩
            · show LBk H17 b pd td bk.ps bk.brought
              rw [hps, hbr]
              exact hL17
            · show (M.kept ++ _).length ≤ _
              rw [List.length_append]
              have := inv13.kept
              show M.kept.length + 1 ≤ _
              omega
            · simp only [List.mem_cons, List.not_mem_nil, or_false] at hx
              rcases hx with rfl | rfl | rfl | rfl | rfl
              · exact mut_un (e145 _ _ gpb) (fun _ z => nomatch z) hu op
              · exact mut_un (e145 _ _ gwb) (fun _ z => nomatch z) hu ow
              · exact mut_un (e145 _ _ hLb.hb) (fun _ z => nomatch z) hu ob
              · exact mut_un (e145 _ _ hLb.hp) (fun _ z => nomatch z) hu opd
              · exact mut_un (e145 _ _ hLb.ht) (fun _ z => nomatch z) hu otd
          have hm0 : (marksOf "") = [] := by unfold marksOf; rw [if_pos rfl]
          rw [hm0] at gpm
          refine tg_two (st_of gq) tg_name tg_name H17 (Ex.refl _) _ ?_
          replace gmk : H17 mk = some (.lst (([] : List Bool).map V.bl)) := gmk
          refine q_skip (et_is (et_or (a := false) (b := false) (et_test (ev_op (ev_var rfl) (ev_var rfl) (rv_neD (dp_bools (sq_of gmk)) (dp_bools (sq_of gpm)) (shaped_bools _)))) fun _ => et_test (ev_op (ev_var rfl) ev_c rv_notN)) rfl) fun H18 e18 => ?_
          have inv18 := inv17.ex e18
          have gr18 := e18 _ _ gr
          refine q_when (et_and (et_test (ev_op (ev_op (ev_op (ev_var rfl) ev_c (rv_ixL (sq_of inv18.hp) r5)) ev_c (rv_mod (by decide))) ev_c (rv_eq rfl))) fun _ => et_test (ev_op (ev_op (ev_var rfl) ev_c (rv_mod (by decide))) ev_c rv_I0)) (fun hb H19 e19 => ?_) (fun hb H19 e19 => ?_)
          · exact ⟨{ d' with un := u }, _, _, _, _, _, _, _, _, _, _, rfl, inv18.ex e19⟩
          have inv19 := inv18.ex e19
          refine q_ifX2 (te_sameH inv19 (by omega) rfl rfl fun H20 inv20 eN20 => ⟨true, rfl, ?_⟩)
          have gr20 : H20 r = some (.tup m.row) := eN20 _ _ (e19 _ _ gr18) (fun _ z => nomatch z)
          refine s_when (b := false) (et_is (et_test (ev_op (ev_call (z := .bl (bk.mem? m.nm).isNone) (ea_cons (ev_var rfl) (ea_cons (ev_op (ev_var rfl) ev_c (rv_ixT (st_of gr20) a1)) ea_nil)) fun H21 e21 Q1 q1 _ => ⟨{ d' with un := u }, _, m.nm, rfl, inv20.hH.ex e21, q1⟩) (ev_dnin (k := .inr m.nm) (ev_op (ev_var rfl) ev_c (rv_ixT (st_of gr20) a1)) (ev_op (ev_var rfl) ev_c (rv_ixL (sq_of inv20.hL.hb) (atI_nat (j := 0) rfl))) inv20.hL.hp) (rv_ne rfl))) (by
            rw [ev_member inv20]
            cases bk.mem? m.nm <;> rfl)) (fun hb => by cases hb) fun _ H22 e22 => ?_
          exact ⟨{ d' with un := u }, _, _, _, _, _, _, _, _, _, _, rfl, inv20.ex e22⟩
    · rintro σ' H8 ⟨d', M, y5, y6, y7, y8, y9, y10, y11, y12, y13, rfl, inv8⟩
      refine s_retQ (te_sameH inv8 (by omega) rfl rfl fun H9 inv9 _ => q H9)
end

end Su
namespace Su
set_option maxHeartbeats 8000000 in
def top_mk {K : PySem.W.Frag} {h : Heap} {mg : Str → Option Value} (X : K.In h) (G : h.Ns mainGlobals mg)
    {gc_House : Addr} (g_House : PySem.W.nsIn K mainGlobals "House" = some (some (.ref gc_House)))
    {gc_Table : Addr} (g_Table : PySem.W.nsIn K mainGlobals "Table" = some (some (.ref gc_Table)))
    {gc_Circle : Addr} (g_Circle : PySem.W.nsIn K mainGlobals "Circle" = some (some (.ref gc_Circle)))
    {gc_Seat : Addr} (g_Seat : PySem.W.nsIn K mainGlobals "Seat" = some (some (.ref gc_Seat)))
    {gc_Books : Addr} (g_Books : PySem.W.nsIn K mainGlobals "Books" = some (some (.ref gc_Books)))
    {od0 an0 : Option Addr} {sl0 : Array (Option Value)} {oc0 kV0 dc0 pm0 cd0 ct0 : Value} {f0 : Addr}
    (a0 : PySem.W.nsIn K mainGlobals "_wall" = some (some (.ref f0))) (l0 : K.lookup f0 = some ⟨oc0, od0, .func (PySem.W.fnOf "_wall" "_wall" (defArgs s__wall) (defBody s__wall) (defScope s__wall) .none kV0 dc0 pm0 an0 cd0 ct0), sl0⟩) (c0 : PySem.W.codeIn K cd0 "_wall" = true) (k0 : PySem.W.keepIn K (.ref f0) = true)
    {od1 an1 : Option Addr} {sl1 : Array (Option Value)} {oc1 kV1 dc1 pm1 cd1 ct1 : Value} {f1 : Addr}
    (a1 : PySem.W.findIn K (.ref gc_Books) "__init__" = some (some (.ref f1))) (i1 : PySem.W.isFn K (.ref f1) = true) (l1 : K.lookup f1 = some ⟨oc1, od1, .func (PySem.W.fnOf "__init__" "Books.__init__" (defArgs s_Books___init__) (defBody s_Books___init__) (defScope s_Books___init__) .none kV1 dc1 pm1 an1 cd1 ct1), sl1⟩) (c1 : PySem.W.codeIn K cd1 "Books.__init__" = true) (k1 : PySem.W.keepIn K (.ref f1) = true)
    {od2 an2 : Option Addr} {sl2 : Array (Option Value)} {oc2 kV2 dc2 pm2 cd2 ct2 : Value} {f2 : Addr}
    (a2 : PySem.W.findIn K (.ref gc_Books) "put" = some (some (.ref f2))) (i2 : PySem.W.isFn K (.ref f2) = true) (l2 : K.lookup f2 = some ⟨oc2, od2, .func (PySem.W.fnOf "put" "Books.put" (defArgs s_Books_put) (defBody s_Books_put) (defScope s_Books_put) .none kV2 dc2 pm2 an2 cd2 ct2), sl2⟩) (c2 : PySem.W.codeIn K cd2 "Books.put" = true) (k2 : PySem.W.keepIn K (.ref f2) = true)
    {od3 an3 : Option Addr} {sl3 : Array (Option Value)} {oc3 kV3 dc3 pm3 cd3 ct3 : Value} {f3 : Addr}
    (a3 : PySem.W.findIn K (.ref gc_Books) "undo_to" = some (some (.ref f3))) (i3 : PySem.W.isFn K (.ref f3) = true) (l3 : K.lookup f3 = some ⟨oc3, od3, .func (PySem.W.fnOf "undo_to" "Books.undo_to" (defArgs s_Books_undo_to) (defBody s_Books_undo_to) (defScope s_Books_undo_to) .none kV3 dc3 pm3 an3 cd3 ct3), sl3⟩) (c3 : PySem.W.codeIn K cd3 "Books.undo_to" = true) (k3 : PySem.W.keepIn K (.ref f3) = true)
    {od4 an4 : Option Addr} {sl4 : Array (Option Value)} {oc4 kV4 dc4 pm4 cd4 ct4 : Value} {f4 : Addr}
    (a4 : PySem.W.findIn K (.ref gc_Books) "has_member" = some (some (.ref f4))) (i4 : PySem.W.isFn K (.ref f4) = true) (l4 : K.lookup f4 = some ⟨oc4, od4, .func (PySem.W.fnOf "has_member" "Books.has_member" (defArgs s_Books_has_member) (defBody s_Books_has_member) (defScope s_Books_has_member) .none kV4 dc4 pm4 an4 cd4 ct4), sl4⟩) (c4 : PySem.W.codeIn K cd4 "Books.has_member" = true) (k4 : PySem.W.keepIn K (.ref f4) = true)
    {od5 an5 : Option Addr} {sl5 : Array (Option Value)} {oc5 kV5 dc5 pm5 cd5 ct5 : Value} {f5 : Addr}
    (a5 : PySem.W.findIn K (.ref gc_Books) "has_table" = some (some (.ref f5))) (i5 : PySem.W.isFn K (.ref f5) = true) (l5 : K.lookup f5 = some ⟨oc5, od5, .func (PySem.W.fnOf "has_table" "Books.has_table" (defArgs s_Books_has_table) (defBody s_Books_has_table) (defScope s_Books_has_table) .none kV5 dc5 pm5 an5 cd5 ct5), sl5⟩) (c5 : PySem.W.codeIn K cd5 "Books.has_table" = true) (k5 : PySem.W.keepIn K (.ref f5) = true)
    {od6 an6 : Option Addr} {sl6 : Array (Option Value)} {oc6 kV6 dc6 pm6 cd6 ct6 : Value} {f6 : Addr}
    (a6 : PySem.W.findIn K (.ref gc_Books) "purse_of" = some (some (.ref f6))) (i6 : PySem.W.isFn K (.ref f6) = true) (l6 : K.lookup f6 = some ⟨oc6, od6, .func (PySem.W.fnOf "purse_of" "Books.purse_of" (defArgs s_Books_purse_of) (defBody s_Books_purse_of) (defScope s_Books_purse_of) .none kV6 dc6 pm6 an6 cd6 ct6), sl6⟩) (c6 : PySem.W.codeIn K cd6 "Books.purse_of" = true) (k6 : PySem.W.keepIn K (.ref f6) = true)
    {od7 an7 : Option Addr} {sl7 : Array (Option Value)} {oc7 kV7 dc7 pm7 cd7 ct7 : Value} {f7 : Addr}
    (a7 : PySem.W.findIn K (.ref gc_Books) "table_of" = some (some (.ref f7))) (i7 : PySem.W.isFn K (.ref f7) = true) (l7 : K.lookup f7 = some ⟨oc7, od7, .func (PySem.W.fnOf "table_of" "Books.table_of" (defArgs s_Books_table_of) (defBody s_Books_table_of) (defScope s_Books_table_of) .none kV7 dc7 pm7 an7 cd7 ct7), sl7⟩) (c7 : PySem.W.codeIn K cd7 "Books.table_of" = true) (k7 : PySem.W.keepIn K (.ref f7) = true)
    {od8 an8 : Option Addr} {sl8 : Array (Option Value)} {oc8 kV8 dc8 pm8 cd8 ct8 : Value} {f8 : Addr}
    (a8 : PySem.W.findIn K (.ref gc_Books) "brought" = some (some (.ref f8))) (i8 : PySem.W.isFn K (.ref f8) = true) (l8 : K.lookup f8 = some ⟨oc8, od8, .func (PySem.W.fnOf "brought" "Books.brought" (defArgs s_Books_brought) (defBody s_Books_brought) (defScope s_Books_brought) .none kV8 dc8 pm8 an8 cd8 ct8), sl8⟩) (c8 : PySem.W.codeIn K cd8 "Books.brought" = true) (k8 : PySem.W.keepIn K (.ref f8) = true)
    {od9 an9 : Option Addr} {sl9 : Array (Option Value)} {oc9 kV9 dc9 pm9 cd9 ct9 : Value} {f9 : Addr}
    (a9 : PySem.W.findIn K (.ref gc_Books) "member_names" = some (some (.ref f9))) (i9 : PySem.W.isFn K (.ref f9) = true) (l9 : K.lookup f9 = some ⟨oc9, od9, .func (PySem.W.fnOf "member_names" "Books.member_names" (defArgs s_Books_member_names) (defBody s_Books_member_names) (defScope s_Books_member_names) .none kV9 dc9 pm9 an9 cd9 ct9), sl9⟩) (c9 : PySem.W.codeIn K cd9 "Books.member_names" = true) (k9 : PySem.W.keepIn K (.ref f9) = true)
    {od10 an10 : Option Addr} {sl10 : Array (Option Value)} {oc10 kV10 dc10 pm10 cd10 ct10 : Value} {f10 : Addr}
    (a10 : PySem.W.findIn K (.ref gc_Books) "table_names" = some (some (.ref f10))) (i10 : PySem.W.isFn K (.ref f10) = true) (l10 : K.lookup f10 = some ⟨oc10, od10, .func (PySem.W.fnOf "table_names" "Books.table_names" (defArgs s_Books_table_names) (defBody s_Books_table_names) (defScope s_Books_table_names) .none kV10 dc10 pm10 an10 cd10 ct10), sl10⟩) (c10 : PySem.W.codeIn K cd10 "Books.table_names" = true) (k10 : PySem.W.keepIn K (.ref f10) = true)
    {od11 an11 : Option Addr} {sl11 : Array (Option Value)} {oc11 kV11 dc11 pm11 cd11 ct11 : Value} {f11 : Addr}
    (a11 : PySem.W.findIn K (.ref gc_Books) "all_tables" = some (some (.ref f11))) (i11 : PySem.W.isFn K (.ref f11) = true) (l11 : K.lookup f11 = some ⟨oc11, od11, .func (PySem.W.fnOf "all_tables" "Books.all_tables" (defArgs s_Books_all_tables) (defBody s_Books_all_tables) (defScope s_Books_all_tables) .none kV11 dc11 pm11 an11 cd11 ct11), sl11⟩) (c11 : PySem.W.codeIn K cd11 "Books.all_tables" = true) (k11 : PySem.W.keepIn K (.ref f11) = true)
    {od12 an12 : Option Addr} {sl12 : Array (Option Value)} {oc12 kV12 dc12 pm12 cd12 ct12 : Value} {f12 : Addr}
    (a12 : PySem.W.findIn K (.ref gc_Books) "add_member" = some (some (.ref f12))) (i12 : PySem.W.isFn K (.ref f12) = true) (l12 : K.lookup f12 = some ⟨oc12, od12, .func (PySem.W.fnOf "add_member" "Books.add_member" (defArgs s_Books_add_member) (defBody s_Books_add_member) (defScope s_Books_add_member) .none kV12 dc12 pm12 an12 cd12 ct12), sl12⟩) (c12 : PySem.W.codeIn K cd12 "Books.add_member" = true) (k12 : PySem.W.keepIn K (.ref f12) = true)
    {od13 an13 : Option Addr} {sl13 : Array (Option Value)} {oc13 kV13 dc13 pm13 cd13 ct13 : Value} {f13 : Addr}
    (a13 : PySem.W.findIn K (.ref gc_Books) "drop_member" = some (some (.ref f13))) (i13 : PySem.W.isFn K (.ref f13) = true) (l13 : K.lookup f13 = some ⟨oc13, od13, .func (PySem.W.fnOf "drop_member" "Books.drop_member" (defArgs s_Books_drop_member) (defBody s_Books_drop_member) (defScope s_Books_drop_member) .none kV13 dc13 pm13 an13 cd13 ct13), sl13⟩) (c13 : PySem.W.codeIn K cd13 "Books.drop_member" = true) (k13 : PySem.W.keepIn K (.ref f13) = true)
    {od14 an14 : Option Addr} {sl14 : Array (Option Value)} {oc14 kV14 dc14 pm14 cd14 ct14 : Value} {f14 : Addr}
    (a14 : PySem.W.findIn K (.ref gc_Books) "put_table" = some (some (.ref f14))) (i14 : PySem.W.isFn K (.ref f14) = true) (l14 : K.lookup f14 = some ⟨oc14, od14, .func (PySem.W.fnOf "put_table" "Books.put_table" (defArgs s_Books_put_table) (defBody s_Books_put_table) (defScope s_Books_put_table) .none kV14 dc14 pm14 an14 cd14 ct14), sl14⟩) (c14 : PySem.W.codeIn K cd14 "Books.put_table" = true) (k14 : PySem.W.keepIn K (.ref f14) = true)
    {od15 an15 : Option Addr} {sl15 : Array (Option Value)} {oc15 kV15 dc15 pm15 cd15 ct15 : Value} {f15 : Addr}
    (a15 : PySem.W.findIn K (.ref gc_Books) "add_coins" = some (some (.ref f15))) (i15 : PySem.W.isFn K (.ref f15) = true) (l15 : K.lookup f15 = some ⟨oc15, od15, .func (PySem.W.fnOf "add_coins" "Books.add_coins" (defArgs s_Books_add_coins) (defBody s_Books_add_coins) (defScope s_Books_add_coins) .none kV15 dc15 pm15 an15 cd15 ct15), sl15⟩) (c15 : PySem.W.codeIn K cd15 "Books.add_coins" = true) (k15 : PySem.W.keepIn K (.ref f15) = true)
    {od16 an16 : Option Addr} {sl16 : Array (Option Value)} {oc16 kV16 dc16 pm16 cd16 ct16 : Value} {f16 : Addr}
    (a16 : PySem.W.findIn K (.ref gc_Books) "add_brought" = some (some (.ref f16))) (i16 : PySem.W.isFn K (.ref f16) = true) (l16 : K.lookup f16 = some ⟨oc16, od16, .func (PySem.W.fnOf "add_brought" "Books.add_brought" (defArgs s_Books_add_brought) (defBody s_Books_add_brought) (defScope s_Books_add_brought) .none kV16 dc16 pm16 an16 cd16 ct16), sl16⟩) (c16 : PySem.W.codeIn K cd16 "Books.add_brought" = true) (k16 : PySem.W.keepIn K (.ref f16) = true)
    {od17 an17 : Option Addr} {sl17 : Array (Option Value)} {oc17 kV17 dc17 pm17 cd17 ct17 : Value} {f17 : Addr}
    (a17 : PySem.W.findIn K (.ref gc_Books) "refuse_short" = some (some (.ref f17))) (i17 : PySem.W.isFn K (.ref f17) = true) (l17 : K.lookup f17 = some ⟨oc17, od17, .func (PySem.W.fnOf "refuse_short" "Books.refuse_short" (defArgs s_Books_refuse_short) (defBody s_Books_refuse_short) (defScope s_Books_refuse_short) .none kV17 dc17 pm17 an17 cd17 ct17), sl17⟩) (c17 : PySem.W.codeIn K cd17 "Books.refuse_short" = true) (k17 : PySem.W.keepIn K (.ref f17) = true)
    {od18 an18 : Option Addr} {sl18 : Array (Option Value)} {oc18 kV18 dc18 pm18 cd18 ct18 : Value} {f18 : Addr}
    (a18 : PySem.W.findIn K (.ref gc_Books) "twin" = some (some (.ref f18))) (i18 : PySem.W.isFn K (.ref f18) = true) (l18 : K.lookup f18 = some ⟨oc18, od18, .func (PySem.W.fnOf "twin" "Books.twin" (defArgs s_Books_twin) (defBody s_Books_twin) (defScope s_Books_twin) .none kV18 dc18 pm18 an18 cd18 ct18), sl18⟩) (c18 : PySem.W.codeIn K cd18 "Books.twin" = true) (k18 : PySem.W.keepIn K (.ref f18) = true)
    {od19 an19 : Option Addr} {sl19 : Array (Option Value)} {oc19 kV19 dc19 pm19 cd19 ct19 : Value} {f19 : Addr}
    (a19 : PySem.W.nsIn K mainGlobals "set_down" = some (some (.ref f19))) (l19 : K.lookup f19 = some ⟨oc19, od19, .func (PySem.W.fnOf "set_down" "set_down" (defArgs s_set_down) (defBody s_set_down) (defScope s_set_down) .none kV19 dc19 pm19 an19 cd19 ct19), sl19⟩) (c19 : PySem.W.codeIn K cd19 "set_down" = true) (k19 : PySem.W.keepIn K (.ref f19) = true)
    {od20 an20 : Option Addr} {sl20 : Array (Option Value)} {oc20 kV20 dc20 pm20 cd20 ct20 : Value} {f20 : Addr}
    (a20 : PySem.W.nsIn K mainGlobals "first_covered" = some (some (.ref f20))) (l20 : K.lookup f20 = some ⟨oc20, od20, .func (PySem.W.fnOf "first_covered" "first_covered" (defArgs s_first_covered) (defBody s_first_covered) (defScope s_first_covered) .none kV20 dc20 pm20 an20 cd20 ct20), sl20⟩) (c20 : PySem.W.codeIn K cd20 "first_covered" = true) (k20 : PySem.W.keepIn K (.ref f20) = true)
    {od21 an21 : Option Addr} {sl21 : Array (Option Value)} {oc21 kV21 dc21 pm21 cd21 ct21 : Value} {f21 : Addr}
    (a21 : PySem.W.nsIn K mainGlobals "is_covered" = some (some (.ref f21))) (l21 : K.lookup f21 = some ⟨oc21, od21, .func (PySem.W.fnOf "is_covered" "is_covered" (defArgs s_is_covered) (defBody s_is_covered) (defScope s_is_covered) .none kV21 dc21 pm21 an21 cd21 ct21), sl21⟩) (c21 : PySem.W.codeIn K cd21 "is_covered" = true) (k21 : PySem.W.keepIn K (.ref f21) = true)
    {od22 an22 : Option Addr} {sl22 : Array (Option Value)} {oc22 kV22 dc22 pm22 cd22 ct22 : Value} {f22 : Addr}
    (a22 : PySem.W.nsIn K mainGlobals "within" = some (some (.ref f22))) (l22 : K.lookup f22 = some ⟨oc22, od22, .func (PySem.W.fnOf "within" "within" (defArgs s_within) (defBody s_within) (defScope s_within) .none kV22 dc22 pm22 an22 cd22 ct22), sl22⟩) (c22 : PySem.W.codeIn K cd22 "within" = true) (k22 : PySem.W.keepIn K (.ref f22) = true)
    {od23 an23 : Option Addr} {sl23 : Array (Option Value)} {oc23 kV23 dc23 pm23 cd23 ct23 : Value} {f23 : Addr}
    (a23 : PySem.W.nsIn K mainGlobals "order_or_bar" = some (some (.ref f23))) (l23 : K.lookup f23 = some ⟨oc23, od23, .func (PySem.W.fnOf "order_or_bar" "order_or_bar" (defArgs s_order_or_bar) (defBody s_order_or_bar) (defScope s_order_or_bar) .none kV23 dc23 pm23 an23 cd23 ct23), sl23⟩) (c23 : PySem.W.codeIn K cd23 "order_or_bar" = true) (k23 : PySem.W.keepIn K (.ref f23) = true)
    {od24 an24 : Option Addr} {sl24 : Array (Option Value)} {oc24 kV24 dc24 pm24 cd24 ct24 : Value} {f24 : Addr}
    (a24 : PySem.W.nsIn K mainGlobals "told_order" = some (some (.ref f24))) (l24 : K.lookup f24 = some ⟨oc24, od24, .func (PySem.W.fnOf "told_order" "told_order" (defArgs s_told_order) (defBody s_told_order) (defScope s_told_order) .none kV24 dc24 pm24 an24 cd24 ct24), sl24⟩) (c24 : PySem.W.codeIn K cd24 "told_order" = true) (k24 : PySem.W.keepIn K (.ref f24) = true)
    {od25 an25 : Option Addr} {sl25 : Array (Option Value)} {oc25 kV25 dc25 pm25 cd25 ct25 : Value} {f25 : Addr}
    (a25 : PySem.W.nsIn K mainGlobals "fullest_span" = some (some (.ref f25))) (l25 : K.lookup f25 = some ⟨oc25, od25, .func (PySem.W.fnOf "fullest_span" "fullest_span" (defArgs s_fullest_span) (defBody s_fullest_span) (defScope s_fullest_span) .none kV25 dc25 pm25 an25 cd25 ct25), sl25⟩) (c25 : PySem.W.codeIn K cd25 "fullest_span" = true) (k25 : PySem.W.keepIn K (.ref f25) = true)
    {od26 an26 : Option Addr} {sl26 : Array (Option Value)} {oc26 kV26 dc26 pm26 cd26 ct26 : Value} {f26 : Addr}
    (a26 : PySem.W.nsIn K mainGlobals "surplus" = some (some (.ref f26))) (l26 : K.lookup f26 = some ⟨oc26, od26, .func (PySem.W.fnOf "surplus" "surplus" (defArgs s_surplus) (defBody s_surplus) (defScope s_surplus) .none kV26 dc26 pm26 an26 cd26 ct26), sl26⟩) (c26 : PySem.W.codeIn K cd26 "surplus" = true) (k26 : PySem.W.keepIn K (.ref f26) = true)
    {od27 an27 : Option Addr} {sl27 : Array (Option Value)} {oc27 kV27 dc27 pm27 cd27 ct27 : Value} {f27 : Addr}
    (a27 : PySem.W.nsIn K mainGlobals "rounds_between" = some (some (.ref f27))) (l27 : K.lookup f27 = some ⟨oc27, od27, .func (PySem.W.fnOf "rounds_between" "rounds_between" (defArgs s_rounds_between) (defBody s_rounds_between) (defScope s_rounds_between) .none kV27 dc27 pm27 an27 cd27 ct27), sl27⟩) (c27 : PySem.W.codeIn K cd27 "rounds_between" = true) (k27 : PySem.W.keepIn K (.ref f27) = true)
    {od28 an28 : Option Addr} {sl28 : Array (Option Value)} {oc28 kV28 dc28 pm28 cd28 ct28 : Value} {f28 : Addr}
    (a28 : PySem.W.findIn K (.ref gc_Seat) "__init__" = some (some (.ref f28))) (i28 : PySem.W.isFn K (.ref f28) = true) (l28 : K.lookup f28 = some ⟨oc28, od28, .func (PySem.W.fnOf "__init__" "Seat.__init__" (defArgs s_Seat___init__) (defBody s_Seat___init__) (defScope s_Seat___init__) .none kV28 dc28 pm28 an28 cd28 ct28), sl28⟩) (c28 : PySem.W.codeIn K cd28 "Seat.__init__" = true) (k28 : PySem.W.keepIn K (.ref f28) = true)
    {od29 an29 : Option Addr} {sl29 : Array (Option Value)} {oc29 kV29 dc29 pm29 cd29 ct29 : Value} {f29 : Addr}
    (a29 : PySem.W.findIn K (.ref gc_Seat) "twin" = some (some (.ref f29))) (i29 : PySem.W.isFn K (.ref f29) = true) (l29 : K.lookup f29 = some ⟨oc29, od29, .func (PySem.W.fnOf "twin" "Seat.twin" (defArgs s_Seat_twin) (defBody s_Seat_twin) (defScope s_Seat_twin) .none kV29 dc29 pm29 an29 cd29 ct29), sl29⟩) (c29 : PySem.W.codeIn K cd29 "Seat.twin" = true) (k29 : PySem.W.keepIn K (.ref f29) = true)
    {dT30 : Addr}
    {od30 an30 : Option Addr} {sl30 : Array (Option Value)} {oc30 kV30 dc30 pm30 cd30 ct30 : Value} {f30 : Addr}
    (a30 : PySem.W.findIn K (.ref gc_Circle) "__init__" = some (some (.ref f30))) (i30 : PySem.W.isFn K (.ref f30) = true) (l30 : K.lookup f30 = some ⟨oc30, od30, .func (PySem.W.fnOf "__init__" "Circle.__init__" (defArgs s_Circle___init__) (defBody s_Circle___init__) (defScope s_Circle___init__) (.ref dT30) kV30 dc30 pm30 an30 cd30 ct30), sl30⟩) (c30 : PySem.W.codeIn K cd30 "Circle.__init__" = true) (k30 : PySem.W.keepIn K (.ref f30) = true)
    {dc030 : Value} {dd030 : Option Addr} {dn030 : Nat} {ds030 : Array (Option Value)} (e30 : K.lookup dT30 = some ⟨dc030, dd030, .seq #[Value.bool false] dn030, ds030⟩)
    {od31 an31 : Option Addr} {sl31 : Array (Option Value)} {oc31 kV31 dc31 pm31 cd31 ct31 : Value} {f31 : Addr}
    (a31 : PySem.W.findIn K (.ref gc_Circle) "turn" = some (some (.ref f31))) (i31 : PySem.W.isFn K (.ref f31) = true) (l31 : K.lookup f31 = some ⟨oc31, od31, .func (PySem.W.fnOf "turn" "Circle.turn" (defArgs s_Circle_turn) (defBody s_Circle_turn) (defScope s_Circle_turn) .none kV31 dc31 pm31 an31 cd31 ct31), sl31⟩) (c31 : PySem.W.codeIn K cd31 "Circle.turn" = true) (k31 : PySem.W.keepIn K (.ref f31) = true)
    {od32 an32 : Option Addr} {sl32 : Array (Option Value)} {oc32 kV32 dc32 pm32 cd32 ct32 : Value} {f32 : Addr}
    (a32 : PySem.W.findIn K (.ref gc_Circle) "ended" = some (some (.ref f32))) (i32 : PySem.W.isFn K (.ref f32) = true) (l32 : K.lookup f32 = some ⟨oc32, od32, .func (PySem.W.fnOf "ended" "Circle.ended" (defArgs s_Circle_ended) (defBody s_Circle_ended) (defScope s_Circle_ended) .none kV32 dc32 pm32 an32 cd32 ct32), sl32⟩) (c32 : PySem.W.codeIn K cd32 "Circle.ended" = true) (k32 : PySem.W.keepIn K (.ref f32) = true)
    {od33 an33 : Option Addr} {sl33 : Array (Option Value)} {oc33 kV33 dc33 pm33 cd33 ct33 : Value} {f33 : Addr}
    (a33 : PySem.W.findIn K (.ref gc_Circle) "queue" = some (some (.ref f33))) (i33 : PySem.W.isFn K (.ref f33) = true) (l33 : K.lookup f33 = some ⟨oc33, od33, .func (PySem.W.fnOf "queue" "Circle.queue" (defArgs s_Circle_queue) (defBody s_Circle_queue) (defScope s_Circle_queue) .none kV33 dc33 pm33 an33 cd33 ct33), sl33⟩) (c33 : PySem.W.codeIn K cd33 "Circle.queue" = true) (k33 : PySem.W.keepIn K (.ref f33) = true)
    {od34 an34 : Option Addr} {sl34 : Array (Option Value)} {oc34 kV34 dc34 pm34 cd34 ct34 : Value} {f34 : Addr}
    (a34 : PySem.W.findIn K (.ref gc_Circle) "rests" = some (some (.ref f34))) (i34 : PySem.W.isFn K (.ref f34) = true) (l34 : K.lookup f34 = some ⟨oc34, od34, .func (PySem.W.fnOf "rests" "Circle.rests" (defArgs s_Circle_rests) (defBody s_Circle_rests) (defScope s_Circle_rests) .none kV34 dc34 pm34 an34 cd34 ct34), sl34⟩) (c34 : PySem.W.codeIn K cd34 "Circle.rests" = true) (k34 : PySem.W.keepIn K (.ref f34) = true)
    {od35 an35 : Option Addr} {sl35 : Array (Option Value)} {oc35 kV35 dc35 pm35 cd35 ct35 : Value} {f35 : Addr}
    (a35 : PySem.W.findIn K (.ref gc_Circle) "box" = some (some (.ref f35))) (i35 : PySem.W.isFn K (.ref f35) = true) (l35 : K.lookup f35 = some ⟨oc35, od35, .func (PySem.W.fnOf "box" "Circle.box" (defArgs s_Circle_box) (defBody s_Circle_box) (defScope s_Circle_box) .none kV35 dc35 pm35 an35 cd35 ct35), sl35⟩) (c35 : PySem.W.codeIn K cd35 "Circle.box" = true) (k35 : PySem.W.keepIn K (.ref f35) = true)
    {od36 an36 : Option Addr} {sl36 : Array (Option Value)} {oc36 kV36 dc36 pm36 cd36 ct36 : Value} {f36 : Addr}
    (a36 : PySem.W.findIn K (.ref gc_Circle) "pot" = some (some (.ref f36))) (i36 : PySem.W.isFn K (.ref f36) = true) (l36 : K.lookup f36 = some ⟨oc36, od36, .func (PySem.W.fnOf "pot" "Circle.pot" (defArgs s_Circle_pot) (defBody s_Circle_pot) (defScope s_Circle_pot) .none kV36 dc36 pm36 an36 cd36 ct36), sl36⟩) (c36 : PySem.W.codeIn K cd36 "Circle.pot" = true) (k36 : PySem.W.keepIn K (.ref f36) = true)
    {od37 an37 : Option Addr} {sl37 : Array (Option Value)} {oc37 kV37 dc37 pm37 cd37 ct37 : Value} {f37 : Addr}
    (a37 : PySem.W.findIn K (.ref gc_Circle) "seat" = some (some (.ref f37))) (i37 : PySem.W.isFn K (.ref f37) = true) (l37 : K.lookup f37 = some ⟨oc37, od37, .func (PySem.W.fnOf "seat" "Circle.seat" (defArgs s_Circle_seat) (defBody s_Circle_seat) (defScope s_Circle_seat) .none kV37 dc37 pm37 an37 cd37 ct37), sl37⟩) (c37 : PySem.W.codeIn K cd37 "Circle.seat" = true) (k37 : PySem.W.keepIn K (.ref f37) = true)
    {od38 an38 : Option Addr} {sl38 : Array (Option Value)} {oc38 kV38 dc38 pm38 cd38 ct38 : Value} {f38 : Addr}
    (a38 : PySem.W.findIn K (.ref gc_Circle) "expected" = some (some (.ref f38))) (i38 : PySem.W.isFn K (.ref f38) = true) (l38 : K.lookup f38 = some ⟨oc38, od38, .func (PySem.W.fnOf "expected" "Circle.expected" (defArgs s_Circle_expected) (defBody s_Circle_expected) (defScope s_Circle_expected) .none kV38 dc38 pm38 an38 cd38 ct38), sl38⟩) (c38 : PySem.W.codeIn K cd38 "Circle.expected" = true) (k38 : PySem.W.keepIn K (.ref f38) = true)
    {od39 an39 : Option Addr} {sl39 : Array (Option Value)} {oc39 kV39 dc39 pm39 cd39 ct39 : Value} {f39 : Addr}
    (a39 : PySem.W.findIn K (.ref gc_Circle) "close" = some (some (.ref f39))) (i39 : PySem.W.isFn K (.ref f39) = true) (l39 : K.lookup f39 = some ⟨oc39, od39, .func (PySem.W.fnOf "close" "Circle.close" (defArgs s_Circle_close) (defBody s_Circle_close) (defScope s_Circle_close) .none kV39 dc39 pm39 an39 cd39 ct39), sl39⟩) (c39 : PySem.W.codeIn K cd39 "Circle.close" = true) (k39 : PySem.W.keepIn K (.ref f39) = true)
    {od40 an40 : Option Addr} {sl40 : Array (Option Value)} {oc40 kV40 dc40 pm40 cd40 ct40 : Value} {f40 : Addr}
    (a40 : PySem.W.findIn K (.ref gc_Circle) "lay" = some (some (.ref f40))) (i40 : PySem.W.isFn K (.ref f40) = true) (l40 : K.lookup f40 = some ⟨oc40, od40, .func (PySem.W.fnOf "lay" "Circle.lay" (defArgs s_Circle_lay) (defBody s_Circle_lay) (defScope s_Circle_lay) .none kV40 dc40 pm40 an40 cd40 ct40), sl40⟩) (c40 : PySem.W.codeIn K cd40 "Circle.lay" = true) (k40 : PySem.W.keepIn K (.ref f40) = true)
    {od41 an41 : Option Addr} {sl41 : Array (Option Value)} {oc41 kV41 dc41 pm41 cd41 ct41 : Value} {f41 : Addr}
    (a41 : PySem.W.findIn K (.ref gc_Circle) "swap" = some (some (.ref f41))) (i41 : PySem.W.isFn K (.ref f41) = true) (l41 : K.lookup f41 = some ⟨oc41, od41, .func (PySem.W.fnOf "swap" "Circle.swap" (defArgs s_Circle_swap) (defBody s_Circle_swap) (defScope s_Circle_swap) .none kV41 dc41 pm41 an41 cd41 ct41), sl41⟩) (c41 : PySem.W.codeIn K cd41 "Circle.swap" = true) (k41 : PySem.W.keepIn K (.ref f41) = true)
    {od42 an42 : Option Addr} {sl42 : Array (Option Value)} {oc42 kV42 dc42 pm42 cd42 ct42 : Value} {f42 : Addr}
    (a42 : PySem.W.findIn K (.ref gc_Circle) "refunds" = some (some (.ref f42))) (i42 : PySem.W.isFn K (.ref f42) = true) (l42 : K.lookup f42 = some ⟨oc42, od42, .func (PySem.W.fnOf "refunds" "Circle.refunds" (defArgs s_Circle_refunds) (defBody s_Circle_refunds) (defScope s_Circle_refunds) .none kV42 dc42 pm42 an42 cd42 ct42), sl42⟩) (c42 : PySem.W.codeIn K cd42 "Circle.refunds" = true) (k42 : PySem.W.keepIn K (.ref f42) = true)
    {od43 an43 : Option Addr} {sl43 : Array (Option Value)} {oc43 kV43 dc43 pm43 cd43 ct43 : Value} {f43 : Addr}
    (a43 : PySem.W.findIn K (.ref gc_Circle) "twin" = some (some (.ref f43))) (i43 : PySem.W.isFn K (.ref f43) = true) (l43 : K.lookup f43 = some ⟨oc43, od43, .func (PySem.W.fnOf "twin" "Circle.twin" (defArgs s_Circle_twin) (defBody s_Circle_twin) (defScope s_Circle_twin) .none kV43 dc43 pm43 an43 cd43 ct43), sl43⟩) (c43 : PySem.W.codeIn K cd43 "Circle.twin" = true) (k43 : PySem.W.keepIn K (.ref f43) = true)
    {od44 an44 : Option Addr} {sl44 : Array (Option Value)} {oc44 kV44 dc44 pm44 cd44 ct44 : Value} {f44 : Addr}
    (a44 : PySem.W.findIn K (.ref gc_Circle) "seat_at" = some (some (.ref f44))) (i44 : PySem.W.isFn K (.ref f44) = true) (l44 : K.lookup f44 = some ⟨oc44, od44, .func (PySem.W.fnOf "seat_at" "Circle.seat_at" (defArgs s_Circle_seat_at) (defBody s_Circle_seat_at) (defScope s_Circle_seat_at) .none kV44 dc44 pm44 an44 cd44 ct44), sl44⟩) (c44 : PySem.W.codeIn K cd44 "Circle.seat_at" = true) (k44 : PySem.W.keepIn K (.ref f44) = true)
    {od45 an45 : Option Addr} {sl45 : Array (Option Value)} {oc45 kV45 dc45 pm45 cd45 ct45 : Value} {f45 : Addr}
    (a45 : PySem.W.findIn K (.ref gc_Circle) "seats_of" = some (some (.ref f45))) (i45 : PySem.W.isFn K (.ref f45) = true) (l45 : K.lookup f45 = some ⟨oc45, od45, .func (PySem.W.fnOf "seats_of" "Circle.seats_of" (defArgs s_Circle_seats_of) (defBody s_Circle_seats_of) (defScope s_Circle_seats_of) .none kV45 dc45 pm45 an45 cd45 ct45), sl45⟩) (c45 : PySem.W.codeIn K cd45 "Circle.seats_of" = true) (k45 : PySem.W.keepIn K (.ref f45) = true)
    {od46 an46 : Option Addr} {sl46 : Array (Option Value)} {oc46 kV46 dc46 pm46 cd46 ct46 : Value} {f46 : Addr}
    (a46 : PySem.W.findIn K (.ref gc_Circle) "covers" = some (some (.ref f46))) (i46 : PySem.W.isFn K (.ref f46) = true) (l46 : K.lookup f46 = some ⟨oc46, od46, .func (PySem.W.fnOf "covers" "Circle.covers" (defArgs s_Circle_covers) (defBody s_Circle_covers) (defScope s_Circle_covers) .none kV46 dc46 pm46 an46 cd46 ct46), sl46⟩) (c46 : PySem.W.codeIn K cd46 "Circle.covers" = true) (k46 : PySem.W.keepIn K (.ref f46) = true)
    {od47 an47 : Option Addr} {sl47 : Array (Option Value)} {oc47 kV47 dc47 pm47 cd47 ct47 : Value} {f47 : Addr}
    (a47 : PySem.W.findIn K (.ref gc_Circle) "standings" = some (some (.ref f47))) (i47 : PySem.W.isFn K (.ref f47) = true) (l47 : K.lookup f47 = some ⟨oc47, od47, .func (PySem.W.fnOf "standings" "Circle.standings" (defArgs s_Circle_standings) (defBody s_Circle_standings) (defScope s_Circle_standings) .none kV47 dc47 pm47 an47 cd47 ct47), sl47⟩) (c47 : PySem.W.codeIn K cd47 "Circle.standings" = true) (k47 : PySem.W.keepIn K (.ref f47) = true)
    {od48 an48 : Option Addr} {sl48 : Array (Option Value)} {oc48 kV48 dc48 pm48 cd48 ct48 : Value} {f48 : Addr}
    (a48 : PySem.W.findIn K (.ref gc_Circle) "unpaid" = some (some (.ref f48))) (i48 : PySem.W.isFn K (.ref f48) = true) (l48 : K.lookup f48 = some ⟨oc48, od48, .func (PySem.W.fnOf "unpaid" "Circle.unpaid" (defArgs s_Circle_unpaid) (defBody s_Circle_unpaid) (defScope s_Circle_unpaid) .none kV48 dc48 pm48 an48 cd48 ct48), sl48⟩) (c48 : PySem.W.codeIn K cd48 "Circle.unpaid" = true) (k48 : PySem.W.keepIn K (.ref f48) = true)
    {od49 an49 : Option Addr} {sl49 : Array (Option Value)} {oc49 kV49 dc49 pm49 cd49 ct49 : Value} {f49 : Addr}
    (a49 : PySem.W.findIn K (.ref gc_Circle) "refuse_lists" = some (some (.ref f49))) (i49 : PySem.W.isFn K (.ref f49) = true) (l49 : K.lookup f49 = some ⟨oc49, od49, .func (PySem.W.fnOf "refuse_lists" "Circle.refuse_lists" (defArgs s_Circle_refuse_lists) (defBody s_Circle_refuse_lists) (defScope s_Circle_refuse_lists) .none kV49 dc49 pm49 an49 cd49 ct49), sl49⟩) (c49 : PySem.W.codeIn K cd49 "Circle.refuse_lists" = true) (k49 : PySem.W.keepIn K (.ref f49) = true)
    {od50 an50 : Option Addr} {sl50 : Array (Option Value)} {oc50 kV50 dc50 pm50 cd50 ct50 : Value} {f50 : Addr}
    (a50 : PySem.W.findIn K (.ref gc_Circle) "let_fall" = some (some (.ref f50))) (i50 : PySem.W.isFn K (.ref f50) = true) (l50 : K.lookup f50 = some ⟨oc50, od50, .func (PySem.W.fnOf "let_fall" "Circle.let_fall" (defArgs s_Circle_let_fall) (defBody s_Circle_let_fall) (defScope s_Circle_let_fall) .none kV50 dc50 pm50 an50 cd50 ct50), sl50⟩) (c50 : PySem.W.codeIn K cd50 "Circle.let_fall" = true) (k50 : PySem.W.keepIn K (.ref f50) = true)
    {od51 an51 : Option Addr} {sl51 : Array (Option Value)} {oc51 kV51 dc51 pm51 cd51 ct51 : Value} {f51 : Addr}
    (a51 : PySem.W.findIn K (.ref gc_Circle) "leave_queue" = some (some (.ref f51))) (i51 : PySem.W.isFn K (.ref f51) = true) (l51 : K.lookup f51 = some ⟨oc51, od51, .func (PySem.W.fnOf "leave_queue" "Circle.leave_queue" (defArgs s_Circle_leave_queue) (defBody s_Circle_leave_queue) (defScope s_Circle_leave_queue) .none kV51 dc51 pm51 an51 cd51 ct51), sl51⟩) (c51 : PySem.W.codeIn K cd51 "Circle.leave_queue" = true) (k51 : PySem.W.keepIn K (.ref f51) = true)
    {od52 an52 : Option Addr} {sl52 : Array (Option Value)} {oc52 kV52 dc52 pm52 cd52 ct52 : Value} {f52 : Addr}
    (a52 : PySem.W.findIn K (.ref gc_Circle) "charge_pledges" = some (some (.ref f52))) (i52 : PySem.W.isFn K (.ref f52) = true) (l52 : K.lookup f52 = some ⟨oc52, od52, .func (PySem.W.fnOf "charge_pledges" "Circle.charge_pledges" (defArgs s_Circle_charge_pledges) (defBody s_Circle_charge_pledges) (defScope s_Circle_charge_pledges) .none kV52 dc52 pm52 an52 cd52 ct52), sl52⟩) (c52 : PySem.W.codeIn K cd52 "Circle.charge_pledges" = true) (k52 : PySem.W.keepIn K (.ref f52) = true)
    {od53 an53 : Option Addr} {sl53 : Array (Option Value)} {oc53 kV53 dc53 pm53 cd53 ct53 : Value} {f53 : Addr}
    (a53 : PySem.W.findIn K (.ref gc_Circle) "collect" = some (some (.ref f53))) (i53 : PySem.W.isFn K (.ref f53) = true) (l53 : K.lookup f53 = some ⟨oc53, od53, .func (PySem.W.fnOf "collect" "Circle.collect" (defArgs s_Circle_collect) (defBody s_Circle_collect) (defScope s_Circle_collect) .none kV53 dc53 pm53 an53 cd53 ct53), sl53⟩) (c53 : PySem.W.codeIn K cd53 "Circle.collect" = true) (k53 : PySem.W.keepIn K (.ref f53) = true)
    {od54 an54 : Option Addr} {sl54 : Array (Option Value)} {oc54 kV54 dc54 pm54 cd54 ct54 : Value} {f54 : Addr}
    (a54 : PySem.W.findIn K (.ref gc_Circle) "rest" = some (some (.ref f54))) (i54 : PySem.W.isFn K (.ref f54) = true) (l54 : K.lookup f54 = some ⟨oc54, od54, .func (PySem.W.fnOf "rest" "Circle.rest" (defArgs s_Circle_rest) (defBody s_Circle_rest) (defScope s_Circle_rest) .none kV54 dc54 pm54 an54 cd54 ct54), sl54⟩) (c54 : PySem.W.codeIn K cd54 "Circle.rest" = true) (k54 : PySem.W.keepIn K (.ref f54) = true)
    {od55 an55 : Option Addr} {sl55 : Array (Option Value)} {oc55 kV55 dc55 pm55 cd55 ct55 : Value} {f55 : Addr}
    (a55 : PySem.W.findIn K (.ref gc_Circle) "draw" = some (some (.ref f55))) (i55 : PySem.W.isFn K (.ref f55) = true) (l55 : K.lookup f55 = some ⟨oc55, od55, .func (PySem.W.fnOf "draw" "Circle.draw" (defArgs s_Circle_draw) (defBody s_Circle_draw) (defScope s_Circle_draw) .none kV55 dc55 pm55 an55 cd55 ct55), sl55⟩) (c55 : PySem.W.codeIn K cd55 "Circle.draw" = true) (k55 : PySem.W.keepIn K (.ref f55) = true)
    {od56 an56 : Option Addr} {sl56 : Array (Option Value)} {oc56 kV56 dc56 pm56 cd56 ct56 : Value} {f56 : Addr}
    (a56 : PySem.W.findIn K (.ref gc_Circle) "best_bid" = some (some (.ref f56))) (i56 : PySem.W.isFn K (.ref f56) = true) (l56 : K.lookup f56 = some ⟨oc56, od56, .func (PySem.W.fnOf "best_bid" "Circle.best_bid" (defArgs s_Circle_best_bid) (defBody s_Circle_best_bid) (defScope s_Circle_best_bid) .none kV56 dc56 pm56 an56 cd56 ct56), sl56⟩) (c56 : PySem.W.codeIn K cd56 "Circle.best_bid" = true) (k56 : PySem.W.keepIn K (.ref f56) = true)
    {od57 an57 : Option Addr} {sl57 : Array (Option Value)} {oc57 kV57 dc57 pm57 cd57 ct57 : Value} {f57 : Addr}
    (a57 : PySem.W.nsIn K mainGlobals "refuse_opening" = some (some (.ref f57))) (l57 : K.lookup f57 = some ⟨oc57, od57, .func (PySem.W.fnOf "refuse_opening" "refuse_opening" (defArgs s_refuse_opening) (defBody s_refuse_opening) (defScope s_refuse_opening) .none kV57 dc57 pm57 an57 cd57 ct57), sl57⟩) (c57 : PySem.W.codeIn K cd57 "refuse_opening" = true) (k57 : PySem.W.keepIn K (.ref f57) = true)
    {od58 an58 : Option Addr} {sl58 : Array (Option Value)} {oc58 kV58 dc58 pm58 cd58 ct58 : Value} {f58 : Addr}
    (a58 : PySem.W.nsIn K mainGlobals "first_queue" = some (some (.ref f58))) (l58 : K.lookup f58 = some ⟨oc58, od58, .func (PySem.W.fnOf "first_queue" "first_queue" (defArgs s_first_queue) (defBody s_first_queue) (defScope s_first_queue) .none kV58 dc58 pm58 an58 cd58 ct58), sl58⟩) (c58 : PySem.W.codeIn K cd58 "first_queue" = true) (k58 : PySem.W.keepIn K (.ref f58) = true)
    {od59 an59 : Option Addr} {sl59 : Array (Option Value)} {oc59 kV59 dc59 pm59 cd59 ct59 : Value} {f59 : Addr}
    (a59 : PySem.W.nsIn K mainGlobals "is_name" = some (some (.ref f59))) (l59 : K.lookup f59 = some ⟨oc59, od59, .func (PySem.W.fnOf "is_name" "is_name" (defArgs s_is_name) (defBody s_is_name) (defScope s_is_name) .none kV59 dc59 pm59 an59 cd59 ct59), sl59⟩) (c59 : PySem.W.codeIn K cd59 "is_name" = true) (k59 : PySem.W.keepIn K (.ref f59) = true)
    {od60 an60 : Option Addr} {sl60 : Array (Option Value)} {oc60 kV60 dc60 pm60 cd60 ct60 : Value} {f60 : Addr}
    (a60 : PySem.W.findIn K (.ref gc_Table) "__init__" = some (some (.ref f60))) (i60 : PySem.W.isFn K (.ref f60) = true) (l60 : K.lookup f60 = some ⟨oc60, od60, .func (PySem.W.fnOf "__init__" "Table.__init__" (defArgs s_Table___init__) (defBody s_Table___init__) (defScope s_Table___init__) .none kV60 dc60 pm60 an60 cd60 ct60), sl60⟩) (c60 : PySem.W.codeIn K cd60 "Table.__init__" = true) (k60 : PySem.W.keepIn K (.ref f60) = true)
    {od61 an61 : Option Addr} {sl61 : Array (Option Value)} {oc61 kV61 dc61 pm61 cd61 ct61 : Value} {f61 : Addr}
    (a61 : PySem.W.findIn K (.ref gc_Table) "seat_of" = some (some (.ref f61))) (i61 : PySem.W.isFn K (.ref f61) = true) (l61 : K.lookup f61 = some ⟨oc61, od61, .func (PySem.W.fnOf "seat_of" "Table.seat_of" (defArgs s_Table_seat_of) (defBody s_Table_seat_of) (defScope s_Table_seat_of) .none kV61 dc61 pm61 an61 cd61 ct61), sl61⟩) (c61 : PySem.W.codeIn K cd61 "Table.seat_of" = true) (k61 : PySem.W.keepIn K (.ref f61) = true)
    {od62 an62 : Option Addr} {sl62 : Array (Option Value)} {oc62 kV62 dc62 pm62 cd62 ct62 : Value} {f62 : Addr}
    (a62 : PySem.W.findIn K (.ref gc_Table) "state_of" = some (some (.ref f62))) (i62 : PySem.W.isFn K (.ref f62) = true) (l62 : K.lookup f62 = some ⟨oc62, od62, .func (PySem.W.fnOf "state_of" "Table.state_of" (defArgs s_Table_state_of) (defBody s_Table_state_of) (defScope s_Table_state_of) .none kV62 dc62 pm62 an62 cd62 ct62), sl62⟩) (c62 : PySem.W.codeIn K cd62 "Table.state_of" = true) (k62 : PySem.W.keepIn K (.ref f62) = true)
    {od63 an63 : Option Addr} {sl63 : Array (Option Value)} {oc63 kV63 dc63 pm63 cd63 ct63 : Value} {f63 : Addr}
    (a63 : PySem.W.findIn K (.ref gc_Table) "with_payment" = some (some (.ref f63))) (i63 : PySem.W.isFn K (.ref f63) = true) (l63 : K.lookup f63 = some ⟨oc63, od63, .func (PySem.W.fnOf "with_payment" "Table.with_payment" (defArgs s_Table_with_payment) (defBody s_Table_with_payment) (defScope s_Table_with_payment) .none kV63 dc63 pm63 an63 cd63 ct63), sl63⟩) (c63 : PySem.W.codeIn K cd63 "Table.with_payment" = true) (k63 : PySem.W.keepIn K (.ref f63) = true)
    {od64 an64 : Option Addr} {sl64 : Array (Option Value)} {oc64 kV64 dc64 pm64 cd64 ct64 : Value} {f64 : Addr}
    (a64 : PySem.W.findIn K (.ref gc_Table) "with_offer" = some (some (.ref f64))) (i64 : PySem.W.isFn K (.ref f64) = true) (l64 : K.lookup f64 = some ⟨oc64, od64, .func (PySem.W.fnOf "with_offer" "Table.with_offer" (defArgs s_Table_with_offer) (defBody s_Table_with_offer) (defScope s_Table_with_offer) .none kV64 dc64 pm64 an64 cd64 ct64), sl64⟩) (c64 : PySem.W.codeIn K cd64 "Table.with_offer" = true) (k64 : PySem.W.keepIn K (.ref f64) = true)
    {od65 an65 : Option Addr} {sl65 : Array (Option Value)} {oc65 kV65 dc65 pm65 cd65 ct65 : Value} {f65 : Addr}
    (a65 : PySem.W.findIn K (.ref gc_Table) "with_circle" = some (some (.ref f65))) (i65 : PySem.W.isFn K (.ref f65) = true) (l65 : K.lookup f65 = some ⟨oc65, od65, .func (PySem.W.fnOf "with_circle" "Table.with_circle" (defArgs s_Table_with_circle) (defBody s_Table_with_circle) (defScope s_Table_with_circle) .none kV65 dc65 pm65 an65 cd65 ct65), sl65⟩) (c65 : PySem.W.codeIn K cd65 "Table.with_circle" = true) (k65 : PySem.W.keepIn K (.ref f65) = true)
    {od66 an66 : Option Addr} {sl66 : Array (Option Value)} {oc66 kV66 dc66 pm66 cd66 ct66 : Value} {f66 : Addr}
    (a66 : PySem.W.findIn K (.ref gc_Table) "behind_round" = some (some (.ref f66))) (i66 : PySem.W.isFn K (.ref f66) = true) (l66 : K.lookup f66 = some ⟨oc66, od66, .func (PySem.W.fnOf "behind_round" "Table.behind_round" (defArgs s_Table_behind_round) (defBody s_Table_behind_round) (defScope s_Table_behind_round) .none kV66 dc66 pm66 an66 cd66 ct66), sl66⟩) (c66 : PySem.W.codeIn K cd66 "Table.behind_round" = true) (k66 : PySem.W.keepIn K (.ref f66) = true)
    {od67 an67 : Option Addr} {sl67 : Array (Option Value)} {oc67 kV67 dc67 pm67 cd67 ct67 : Value} {f67 : Addr}
    (a67 : PySem.W.findIn K (.ref gc_Table) "told_reports" = some (some (.ref f67))) (i67 : PySem.W.isFn K (.ref f67) = true) (l67 : K.lookup f67 = some ⟨oc67, od67, .func (PySem.W.fnOf "told_reports" "Table.told_reports" (defArgs s_Table_told_reports) (defBody s_Table_told_reports) (defScope s_Table_told_reports) .none kV67 dc67 pm67 an67 cd67 ct67), sl67⟩) (c67 : PySem.W.codeIn K cd67 "Table.told_reports" = true) (k67 : PySem.W.keepIn K (.ref f67) = true)
    {od68 an68 : Option Addr} {sl68 : Array (Option Value)} {oc68 kV68 dc68 pm68 cd68 ct68 : Value} {f68 : Addr}
    (a68 : PySem.W.findIn K (.ref gc_Table) "holdings" = some (some (.ref f68))) (i68 : PySem.W.isFn K (.ref f68) = true) (l68 : K.lookup f68 = some ⟨oc68, od68, .func (PySem.W.fnOf "holdings" "Table.holdings" (defArgs s_Table_holdings) (defBody s_Table_holdings) (defScope s_Table_holdings) .none kV68 dc68 pm68 an68 cd68 ct68), sl68⟩) (c68 : PySem.W.codeIn K cd68 "Table.holdings" = true) (k68 : PySem.W.keepIn K (.ref f68) = true)
    {od69 an69 : Option Addr} {sl69 : Array (Option Value)} {oc69 kV69 dc69 pm69 cd69 ct69 : Value} {f69 : Addr}
    (a69 : PySem.W.findIn K (.ref gc_Table) "payouts" = some (some (.ref f69))) (i69 : PySem.W.isFn K (.ref f69) = true) (l69 : K.lookup f69 = some ⟨oc69, od69, .func (PySem.W.fnOf "payouts" "Table.payouts" (defArgs s_Table_payouts) (defBody s_Table_payouts) (defScope s_Table_payouts) .none kV69 dc69 pm69 an69 cd69 ct69), sl69⟩) (c69 : PySem.W.codeIn K cd69 "Table.payouts" = true) (k69 : PySem.W.keepIn K (.ref f69) = true)
    {od70 an70 : Option Addr} {sl70 : Array (Option Value)} {oc70 kV70 dc70 pm70 cd70 ct70 : Value} {f70 : Addr}
    (a70 : PySem.W.nsIn K mainGlobals "opened_table" = some (some (.ref f70))) (l70 : K.lookup f70 = some ⟨oc70, od70, .func (PySem.W.fnOf "opened_table" "opened_table" (defArgs s_opened_table) (defBody s_opened_table) (defScope s_opened_table) .none kV70 dc70 pm70 an70 cd70 ct70), sl70⟩) (c70 : PySem.W.codeIn K cd70 "opened_table" = true) (k70 : PySem.W.keepIn K (.ref f70) = true)
    {od71 an71 : Option Addr} {sl71 : Array (Option Value)} {oc71 kV71 dc71 pm71 cd71 ct71 : Value} {f71 : Addr}
    (a71 : PySem.W.nsIn K mainGlobals "report_copy" = some (some (.ref f71))) (l71 : K.lookup f71 = some ⟨oc71, od71, .func (PySem.W.fnOf "report_copy" "report_copy" (defArgs s_report_copy) (defBody s_report_copy) (defScope s_report_copy) .none kV71 dc71 pm71 an71 cd71 ct71), sl71⟩) (c71 : PySem.W.codeIn K cd71 "report_copy" = true) (k71 : PySem.W.keepIn K (.ref f71) = true)
    {od72 an72 : Option Addr} {sl72 : Array (Option Value)} {oc72 kV72 dc72 pm72 cd72 ct72 : Value} {f72 : Addr}
    (a72 : PySem.W.nsIn K mainGlobals "enter" = some (some (.ref f72))) (l72 : K.lookup f72 = some ⟨oc72, od72, .func (PySem.W.fnOf "enter" "enter" (defArgs s_enter) (defBody s_enter) (defScope s_enter) .none kV72 dc72 pm72 an72 cd72 ct72), sl72⟩) (c72 : PySem.W.codeIn K cd72 "enter" = true) (k72 : PySem.W.keepIn K (.ref f72) = true)
    {od73 an73 : Option Addr} {sl73 : Array (Option Value)} {oc73 kV73 dc73 pm73 cd73 ct73 : Value} {f73 : Addr}
    (a73 : PySem.W.nsIn K mainGlobals "part" = some (some (.ref f73))) (l73 : K.lookup f73 = some ⟨oc73, od73, .func (PySem.W.fnOf "part" "part" (defArgs s_part) (defBody s_part) (defScope s_part) .none kV73 dc73 pm73 an73 cd73 ct73), sl73⟩) (c73 : PySem.W.codeIn K cd73 "part" = true) (k73 : PySem.W.keepIn K (.ref f73) = true)
    {od74 an74 : Option Addr} {sl74 : Array (Option Value)} {oc74 kV74 dc74 pm74 cd74 ct74 : Value} {f74 : Addr}
    (a74 : PySem.W.nsIn K mainGlobals "bring" = some (some (.ref f74))) (l74 : K.lookup f74 = some ⟨oc74, od74, .func (PySem.W.fnOf "bring" "bring" (defArgs s_bring) (defBody s_bring) (defScope s_bring) .none kV74 dc74 pm74 an74 cd74 ct74), sl74⟩) (c74 : PySem.W.codeIn K cd74 "bring" = true) (k74 : PySem.W.keepIn K (.ref f74) = true)
    {od75 an75 : Option Addr} {sl75 : Array (Option Value)} {oc75 kV75 dc75 pm75 cd75 ct75 : Value} {f75 : Addr}
    (a75 : PySem.W.nsIn K mainGlobals "take" = some (some (.ref f75))) (l75 : K.lookup f75 = some ⟨oc75, od75, .func (PySem.W.fnOf "take" "take" (defArgs s_take) (defBody s_take) (defScope s_take) .none kV75 dc75 pm75 an75 cd75 ct75), sl75⟩) (c75 : PySem.W.codeIn K cd75 "take" = true) (k75 : PySem.W.keepIn K (.ref f75) = true)
    {od76 an76 : Option Addr} {sl76 : Array (Option Value)} {oc76 kV76 dc76 pm76 cd76 ct76 : Value} {f76 : Addr}
    (a76 : PySem.W.nsIn K mainGlobals "found" = some (some (.ref f76))) (l76 : K.lookup f76 = some ⟨oc76, od76, .func (PySem.W.fnOf "found" "found" (defArgs s_found) (defBody s_found) (defScope s_found) .none kV76 dc76 pm76 an76 cd76 ct76), sl76⟩) (c76 : PySem.W.codeIn K cd76 "found" = true) (k76 : PySem.W.keepIn K (.ref f76) = true)
    {od77 an77 : Option Addr} {sl77 : Array (Option Value)} {oc77 kV77 dc77 pm77 cd77 ct77 : Value} {f77 : Addr}
    (a77 : PySem.W.nsIn K mainGlobals "pay" = some (some (.ref f77))) (l77 : K.lookup f77 = some ⟨oc77, od77, .func (PySem.W.fnOf "pay" "pay" (defArgs s_pay) (defBody s_pay) (defScope s_pay) .none kV77 dc77 pm77 an77 cd77 ct77), sl77⟩) (c77 : PySem.W.codeIn K cd77 "pay" = true) (k77 : PySem.W.keepIn K (.ref f77) = true)
    {od78 an78 : Option Addr} {sl78 : Array (Option Value)} {oc78 kV78 dc78 pm78 cd78 ct78 : Value} {f78 : Addr}
    (a78 : PySem.W.nsIn K mainGlobals "bid" = some (some (.ref f78))) (l78 : K.lookup f78 = some ⟨oc78, od78, .func (PySem.W.fnOf "bid" "bid" (defArgs s_bid) (defBody s_bid) (defScope s_bid) .none kV78 dc78 pm78 an78 cd78 ct78), sl78⟩) (c78 : PySem.W.codeIn K cd78 "bid" = true) (k78 : PySem.W.keepIn K (.ref f78) = true)
    {od79 an79 : Option Addr} {sl79 : Array (Option Value)} {oc79 kV79 dc79 pm79 cd79 ct79 : Value} {f79 : Addr}
    (a79 : PySem.W.nsIn K mainGlobals "lay" = some (some (.ref f79))) (l79 : K.lookup f79 = some ⟨oc79, od79, .func (PySem.W.fnOf "lay" "lay" (defArgs s_lay) (defBody s_lay) (defScope s_lay) .none kV79 dc79 pm79 an79 cd79 ct79), sl79⟩) (c79 : PySem.W.codeIn K cd79 "lay" = true) (k79 : PySem.W.keepIn K (.ref f79) = true)
    {od80 an80 : Option Addr} {sl80 : Array (Option Value)} {oc80 kV80 dc80 pm80 cd80 ct80 : Value} {f80 : Addr}
    (a80 : PySem.W.nsIn K mainGlobals "swap" = some (some (.ref f80))) (l80 : K.lookup f80 = some ⟨oc80, od80, .func (PySem.W.fnOf "swap" "swap" (defArgs s_swap) (defBody s_swap) (defScope s_swap) .none kV80 dc80 pm80 an80 cd80 ct80), sl80⟩) (c80 : PySem.W.codeIn K cd80 "swap" = true) (k80 : PySem.W.keepIn K (.ref f80) = true)
    {od81 an81 : Option Addr} {sl81 : Array (Option Value)} {oc81 kV81 dc81 pm81 cd81 ct81 : Value} {f81 : Addr}
    (a81 : PySem.W.nsIn K mainGlobals "close" = some (some (.ref f81))) (l81 : K.lookup f81 = some ⟨oc81, od81, .func (PySem.W.fnOf "close" "close" (defArgs s_close) (defBody s_close) (defScope s_close) .none kV81 dc81 pm81 an81 cd81 ct81), sl81⟩) (c81 : PySem.W.codeIn K cd81 "close" = true) (k81 : PySem.W.keepIn K (.ref f81) = true)
    {od82 an82 : Option Addr} {sl82 : Array (Option Value)} {oc82 kV82 dc82 pm82 cd82 ct82 : Value} {f82 : Addr}
    (a82 : PySem.W.nsIn K mainGlobals "refuse_ended" = some (some (.ref f82))) (l82 : K.lookup f82 = some ⟨oc82, od82, .func (PySem.W.fnOf "refuse_ended" "refuse_ended" (defArgs s_refuse_ended) (defBody s_refuse_ended) (defScope s_refuse_ended) .none kV82 dc82 pm82 an82 cd82 ct82), sl82⟩) (c82 : PySem.W.codeIn K cd82 "refuse_ended" = true) (k82 : PySem.W.keepIn K (.ref f82) = true)
    {od83 an83 : Option Addr} {sl83 : Array (Option Value)} {oc83 kV83 dc83 pm83 cd83 ct83 : Value} {f83 : Addr}
    (a83 : PySem.W.nsIn K mainGlobals "refuse_beyond" = some (some (.ref f83))) (l83 : K.lookup f83 = some ⟨oc83, od83, .func (PySem.W.fnOf "refuse_beyond" "refuse_beyond" (defArgs s_refuse_beyond) (defBody s_refuse_beyond) (defScope s_refuse_beyond) .none kV83 dc83 pm83 an83 cd83 ct83), sl83⟩) (c83 : PySem.W.codeIn K cd83 "refuse_beyond" = true) (k83 : PySem.W.keepIn K (.ref f83) = true)
    {od84 an84 : Option Addr} {sl84 : Array (Option Value)} {oc84 kV84 dc84 pm84 cd84 ct84 : Value} {f84 : Addr}
    (a84 : PySem.W.nsIn K mainGlobals "done" = some (some (.ref f84))) (l84 : K.lookup f84 = some ⟨oc84, od84, .func (PySem.W.fnOf "done" "done" (defArgs s_done) (defBody s_done) (defScope s_done) .none kV84 dc84 pm84 an84 cd84 ct84), sl84⟩) (c84 : PySem.W.codeIn K cd84 "done" = true) (k84 : PySem.W.keepIn K (.ref f84) = true)
    {od85 an85 : Option Addr} {sl85 : Array (Option Value)} {oc85 kV85 dc85 pm85 cd85 ct85 : Value} {f85 : Addr}
    (a85 : PySem.W.findIn K (.ref gc_House) "__init__" = some (some (.ref f85))) (i85 : PySem.W.isFn K (.ref f85) = true) (l85 : K.lookup f85 = some ⟨oc85, od85, .func (PySem.W.fnOf "__init__" "House.__init__" (defArgs s_House___init__) (defBody s_House___init__) (defScope s_House___init__) .none kV85 dc85 pm85 an85 cd85 ct85), sl85⟩) (c85 : PySem.W.codeIn K cd85 "House.__init__" = true) (k85 : PySem.W.keepIn K (.ref f85) = true)
    {od86 an86 : Option Addr} {sl86 : Array (Option Value)} {oc86 kV86 dc86 pm86 cd86 ct86 : Value} {f86 : Addr}
    (a86 : PySem.W.findIn K (.ref gc_House) "enter" = some (some (.ref f86))) (i86 : PySem.W.isFn K (.ref f86) = true) (l86 : K.lookup f86 = some ⟨oc86, od86, .func (PySem.W.fnOf "enter" "House.enter" (defArgs s_House_enter) (defBody s_House_enter) (defScope s_House_enter) .none kV86 dc86 pm86 an86 cd86 ct86), sl86⟩) (c86 : PySem.W.codeIn K cd86 "House.enter" = true) (k86 : PySem.W.keepIn K (.ref f86) = true)
    {od87 an87 : Option Addr} {sl87 : Array (Option Value)} {oc87 kV87 dc87 pm87 cd87 ct87 : Value} {f87 : Addr}
    (a87 : PySem.W.findIn K (.ref gc_House) "part" = some (some (.ref f87))) (i87 : PySem.W.isFn K (.ref f87) = true) (l87 : K.lookup f87 = some ⟨oc87, od87, .func (PySem.W.fnOf "part" "House.part" (defArgs s_House_part) (defBody s_House_part) (defScope s_House_part) .none kV87 dc87 pm87 an87 cd87 ct87), sl87⟩) (c87 : PySem.W.codeIn K cd87 "House.part" = true) (k87 : PySem.W.keepIn K (.ref f87) = true)
    {od88 an88 : Option Addr} {sl88 : Array (Option Value)} {oc88 kV88 dc88 pm88 cd88 ct88 : Value} {f88 : Addr}
    (a88 : PySem.W.findIn K (.ref gc_House) "bring" = some (some (.ref f88))) (i88 : PySem.W.isFn K (.ref f88) = true) (l88 : K.lookup f88 = some ⟨oc88, od88, .func (PySem.W.fnOf "bring" "House.bring" (defArgs s_House_bring) (defBody s_House_bring) (defScope s_House_bring) .none kV88 dc88 pm88 an88 cd88 ct88), sl88⟩) (c88 : PySem.W.codeIn K cd88 "House.bring" = true) (k88 : PySem.W.keepIn K (.ref f88) = true)
    {od89 an89 : Option Addr} {sl89 : Array (Option Value)} {oc89 kV89 dc89 pm89 cd89 ct89 : Value} {f89 : Addr}
    (a89 : PySem.W.findIn K (.ref gc_House) "take" = some (some (.ref f89))) (i89 : PySem.W.isFn K (.ref f89) = true) (l89 : K.lookup f89 = some ⟨oc89, od89, .func (PySem.W.fnOf "take" "House.take" (defArgs s_House_take) (defBody s_House_take) (defScope s_House_take) .none kV89 dc89 pm89 an89 cd89 ct89), sl89⟩) (c89 : PySem.W.codeIn K cd89 "House.take" = true) (k89 : PySem.W.keepIn K (.ref f89) = true)
    {od90 an90 : Option Addr} {sl90 : Array (Option Value)} {oc90 kV90 dc90 pm90 cd90 ct90 : Value} {f90 : Addr}
    (a90 : PySem.W.findIn K (.ref gc_House) "found" = some (some (.ref f90))) (i90 : PySem.W.isFn K (.ref f90) = true) (l90 : K.lookup f90 = some ⟨oc90, od90, .func (PySem.W.fnOf "found" "House.found" (defArgs s_House_found) (defBody s_House_found) (defScope s_House_found) .none kV90 dc90 pm90 an90 cd90 ct90), sl90⟩) (c90 : PySem.W.codeIn K cd90 "House.found" = true) (k90 : PySem.W.keepIn K (.ref f90) = true)
    {od91 an91 : Option Addr} {sl91 : Array (Option Value)} {oc91 kV91 dc91 pm91 cd91 ct91 : Value} {f91 : Addr}
    (a91 : PySem.W.findIn K (.ref gc_House) "pay" = some (some (.ref f91))) (i91 : PySem.W.isFn K (.ref f91) = true) (l91 : K.lookup f91 = some ⟨oc91, od91, .func (PySem.W.fnOf "pay" "House.pay" (defArgs s_House_pay) (defBody s_House_pay) (defScope s_House_pay) .none kV91 dc91 pm91 an91 cd91 ct91), sl91⟩) (c91 : PySem.W.codeIn K cd91 "House.pay" = true) (k91 : PySem.W.keepIn K (.ref f91) = true)
    {od92 an92 : Option Addr} {sl92 : Array (Option Value)} {oc92 kV92 dc92 pm92 cd92 ct92 : Value} {f92 : Addr}
    (a92 : PySem.W.findIn K (.ref gc_House) "bid" = some (some (.ref f92))) (i92 : PySem.W.isFn K (.ref f92) = true) (l92 : K.lookup f92 = some ⟨oc92, od92, .func (PySem.W.fnOf "bid" "House.bid" (defArgs s_House_bid) (defBody s_House_bid) (defScope s_House_bid) .none kV92 dc92 pm92 an92 cd92 ct92), sl92⟩) (c92 : PySem.W.codeIn K cd92 "House.bid" = true) (k92 : PySem.W.keepIn K (.ref f92) = true)
    {od93 an93 : Option Addr} {sl93 : Array (Option Value)} {oc93 kV93 dc93 pm93 cd93 ct93 : Value} {f93 : Addr}
    (a93 : PySem.W.findIn K (.ref gc_House) "lay" = some (some (.ref f93))) (i93 : PySem.W.isFn K (.ref f93) = true) (l93 : K.lookup f93 = some ⟨oc93, od93, .func (PySem.W.fnOf "lay" "House.lay" (defArgs s_House_lay) (defBody s_House_lay) (defScope s_House_lay) .none kV93 dc93 pm93 an93 cd93 ct93), sl93⟩) (c93 : PySem.W.codeIn K cd93 "House.lay" = true) (k93 : PySem.W.keepIn K (.ref f93) = true)
    {od94 an94 : Option Addr} {sl94 : Array (Option Value)} {oc94 kV94 dc94 pm94 cd94 ct94 : Value} {f94 : Addr}
    (a94 : PySem.W.findIn K (.ref gc_House) "swap" = some (some (.ref f94))) (i94 : PySem.W.isFn K (.ref f94) = true) (l94 : K.lookup f94 = some ⟨oc94, od94, .func (PySem.W.fnOf "swap" "House.swap" (defArgs s_House_swap) (defBody s_House_swap) (defScope s_House_swap) .none kV94 dc94 pm94 an94 cd94 ct94), sl94⟩) (c94 : PySem.W.codeIn K cd94 "House.swap" = true) (k94 : PySem.W.keepIn K (.ref f94) = true)
    {od95 an95 : Option Addr} {sl95 : Array (Option Value)} {oc95 kV95 dc95 pm95 cd95 ct95 : Value} {f95 : Addr}
    (a95 : PySem.W.findIn K (.ref gc_House) "close" = some (some (.ref f95))) (i95 : PySem.W.isFn K (.ref f95) = true) (l95 : K.lookup f95 = some ⟨oc95, od95, .func (PySem.W.fnOf "close" "House.close" (defArgs s_House_close) (defBody s_House_close) (defScope s_House_close) .none kV95 dc95 pm95 an95 cd95 ct95), sl95⟩) (c95 : PySem.W.codeIn K cd95 "House.close" = true) (k95 : PySem.W.keepIn K (.ref f95) = true)
    {od96 an96 : Option Addr} {sl96 : Array (Option Value)} {oc96 kV96 dc96 pm96 cd96 ct96 : Value} {f96 : Addr}
    (a96 : PySem.W.findIn K (.ref gc_House) "deed" = some (some (.ref f96))) (i96 : PySem.W.isFn K (.ref f96) = true) (l96 : K.lookup f96 = some ⟨oc96, od96, .func (PySem.W.fnOf "deed" "House.deed" (defArgs s_House_deed) (defBody s_House_deed) (defScope s_House_deed) .none kV96 dc96 pm96 an96 cd96 ct96), sl96⟩) (c96 : PySem.W.codeIn K cd96 "House.deed" = true) (k96 : PySem.W.keepIn K (.ref f96) = true)
    {od97 an97 : Option Addr} {sl97 : Array (Option Value)} {oc97 kV97 dc97 pm97 cd97 ct97 : Value} {f97 : Addr}
    (a97 : PySem.W.findIn K (.ref gc_House) "back" = some (some (.ref f97))) (i97 : PySem.W.isFn K (.ref f97) = true) (l97 : K.lookup f97 = some ⟨oc97, od97, .func (PySem.W.fnOf "back" "House.back" (defArgs s_House_back) (defBody s_House_back) (defScope s_House_back) .none kV97 dc97 pm97 an97 cd97 ct97), sl97⟩) (c97 : PySem.W.codeIn K cd97 "House.back" = true) (k97 : PySem.W.keepIn K (.ref f97) = true)
    {od98 an98 : Option Addr} {sl98 : Array (Option Value)} {oc98 kV98 dc98 pm98 cd98 ct98 : Value} {f98 : Addr}
    (a98 : PySem.W.findIn K (.ref gc_House) "again" = some (some (.ref f98))) (i98 : PySem.W.isFn K (.ref f98) = true) (l98 : K.lookup f98 = some ⟨oc98, od98, .func (PySem.W.fnOf "again" "House.again" (defArgs s_House_again) (defBody s_House_again) (defScope s_House_again) .none kV98 dc98 pm98 an98 cd98 ct98), sl98⟩) (c98 : PySem.W.codeIn K cd98 "House.again" = true) (k98 : PySem.W.keepIn K (.ref f98) = true)
    {od99 an99 : Option Addr} {sl99 : Array (Option Value)} {oc99 kV99 dc99 pm99 cd99 ct99 : Value} {f99 : Addr}
    (a99 : PySem.W.findIn K (.ref gc_House) "members" = some (some (.ref f99))) (i99 : PySem.W.isFn K (.ref f99) = true) (l99 : K.lookup f99 = some ⟨oc99, od99, .func (PySem.W.fnOf "members" "House.members" (defArgs s_House_members) (defBody s_House_members) (defScope s_House_members) .none kV99 dc99 pm99 an99 cd99 ct99), sl99⟩) (c99 : PySem.W.codeIn K cd99 "House.members" = true) (k99 : PySem.W.keepIn K (.ref f99) = true)
    {od100 an100 : Option Addr} {sl100 : Array (Option Value)} {oc100 kV100 dc100 pm100 cd100 ct100 : Value} {f100 : Addr}
    (a100 : PySem.W.findIn K (.ref gc_House) "purse" = some (some (.ref f100))) (i100 : PySem.W.isFn K (.ref f100) = true) (l100 : K.lookup f100 = some ⟨oc100, od100, .func (PySem.W.fnOf "purse" "House.purse" (defArgs s_House_purse) (defBody s_House_purse) (defScope s_House_purse) .none kV100 dc100 pm100 an100 cd100 ct100), sl100⟩) (c100 : PySem.W.codeIn K cd100 "House.purse" = true) (k100 : PySem.W.keepIn K (.ref f100) = true)
    {od101 an101 : Option Addr} {sl101 : Array (Option Value)} {oc101 kV101 dc101 pm101 cd101 ct101 : Value} {f101 : Addr}
    (a101 : PySem.W.findIn K (.ref gc_House) "circles" = some (some (.ref f101))) (i101 : PySem.W.isFn K (.ref f101) = true) (l101 : K.lookup f101 = some ⟨oc101, od101, .func (PySem.W.fnOf "circles" "House.circles" (defArgs s_House_circles) (defBody s_House_circles) (defScope s_House_circles) .none kV101 dc101 pm101 an101 cd101 ct101), sl101⟩) (c101 : PySem.W.codeIn K cd101 "House.circles" = true) (k101 : PySem.W.keepIn K (.ref f101) = true)
    {od102 an102 : Option Addr} {sl102 : Array (Option Value)} {oc102 kV102 dc102 pm102 cd102 ct102 : Value} {f102 : Addr}
    (a102 : PySem.W.findIn K (.ref gc_House) "names" = some (some (.ref f102))) (i102 : PySem.W.isFn K (.ref f102) = true) (l102 : K.lookup f102 = some ⟨oc102, od102, .func (PySem.W.fnOf "names" "House.names" (defArgs s_House_names) (defBody s_House_names) (defScope s_House_names) .none kV102 dc102 pm102 an102 cd102 ct102), sl102⟩) (c102 : PySem.W.codeIn K cd102 "House.names" = true) (k102 : PySem.W.keepIn K (.ref f102) = true)
    {od103 an103 : Option Addr} {sl103 : Array (Option Value)} {oc103 kV103 dc103 pm103 cd103 ct103 : Value} {f103 : Addr}
    (a103 : PySem.W.findIn K (.ref gc_House) "turn" = some (some (.ref f103))) (i103 : PySem.W.isFn K (.ref f103) = true) (l103 : K.lookup f103 = some ⟨oc103, od103, .func (PySem.W.fnOf "turn" "House.turn" (defArgs s_House_turn) (defBody s_House_turn) (defScope s_House_turn) .none kV103 dc103 pm103 an103 cd103 ct103), sl103⟩) (c103 : PySem.W.codeIn K cd103 "House.turn" = true) (k103 : PySem.W.keepIn K (.ref f103) = true)
    {od104 an104 : Option Addr} {sl104 : Array (Option Value)} {oc104 kV104 dc104 pm104 cd104 ct104 : Value} {f104 : Addr}
    (a104 : PySem.W.findIn K (.ref gc_House) "rests" = some (some (.ref f104))) (i104 : PySem.W.isFn K (.ref f104) = true) (l104 : K.lookup f104 = some ⟨oc104, od104, .func (PySem.W.fnOf "rests" "House.rests" (defArgs s_House_rests) (defBody s_House_rests) (defScope s_House_rests) .none kV104 dc104 pm104 an104 cd104 ct104), sl104⟩) (c104 : PySem.W.codeIn K cd104 "House.rests" = true) (k104 : PySem.W.keepIn K (.ref f104) = true)
    {od105 an105 : Option Addr} {sl105 : Array (Option Value)} {oc105 kV105 dc105 pm105 cd105 ct105 : Value} {f105 : Addr}
    (a105 : PySem.W.findIn K (.ref gc_House) "queue" = some (some (.ref f105))) (i105 : PySem.W.isFn K (.ref f105) = true) (l105 : K.lookup f105 = some ⟨oc105, od105, .func (PySem.W.fnOf "queue" "House.queue" (defArgs s_House_queue) (defBody s_House_queue) (defScope s_House_queue) .none kV105 dc105 pm105 an105 cd105 ct105), sl105⟩) (c105 : PySem.W.codeIn K cd105 "House.queue" = true) (k105 : PySem.W.keepIn K (.ref f105) = true)
    {od106 an106 : Option Addr} {sl106 : Array (Option Value)} {oc106 kV106 dc106 pm106 cd106 ct106 : Value} {f106 : Addr}
    (a106 : PySem.W.findIn K (.ref gc_House) "paid" = some (some (.ref f106))) (i106 : PySem.W.isFn K (.ref f106) = true) (l106 : K.lookup f106 = some ⟨oc106, od106, .func (PySem.W.fnOf "paid" "House.paid" (defArgs s_House_paid) (defBody s_House_paid) (defScope s_House_paid) .none kV106 dc106 pm106 an106 cd106 ct106), sl106⟩) (c106 : PySem.W.codeIn K cd106 "House.paid" = true) (k106 : PySem.W.keepIn K (.ref f106) = true)
    {od107 an107 : Option Addr} {sl107 : Array (Option Value)} {oc107 kV107 dc107 pm107 cd107 ct107 : Value} {f107 : Addr}
    (a107 : PySem.W.findIn K (.ref gc_House) "bids" = some (some (.ref f107))) (i107 : PySem.W.isFn K (.ref f107) = true) (l107 : K.lookup f107 = some ⟨oc107, od107, .func (PySem.W.fnOf "bids" "House.bids" (defArgs s_House_bids) (defBody s_House_bids) (defScope s_House_bids) .none kV107 dc107 pm107 an107 cd107 ct107), sl107⟩) (c107 : PySem.W.codeIn K cd107 "House.bids" = true) (k107 : PySem.W.keepIn K (.ref f107) = true)
    {od108 an108 : Option Addr} {sl108 : Array (Option Value)} {oc108 kV108 dc108 pm108 cd108 ct108 : Value} {f108 : Addr}
    (a108 : PySem.W.findIn K (.ref gc_House) "reports" = some (some (.ref f108))) (i108 : PySem.W.isFn K (.ref f108) = true) (l108 : K.lookup f108 = some ⟨oc108, od108, .func (PySem.W.fnOf "reports" "House.reports" (defArgs s_House_reports) (defBody s_House_reports) (defScope s_House_reports) .none kV108 dc108 pm108 an108 cd108 ct108), sl108⟩) (c108 : PySem.W.codeIn K cd108 "House.reports" = true) (k108 : PySem.W.keepIn K (.ref f108) = true)
    {od109 an109 : Option Addr} {sl109 : Array (Option Value)} {oc109 kV109 dc109 pm109 cd109 ct109 : Value} {f109 : Addr}
    (a109 : PySem.W.findIn K (.ref gc_House) "held" = some (some (.ref f109))) (i109 : PySem.W.isFn K (.ref f109) = true) (l109 : K.lookup f109 = some ⟨oc109, od109, .func (PySem.W.fnOf "held" "House.held" (defArgs s_House_held) (defBody s_House_held) (defScope s_House_held) .none kV109 dc109 pm109 an109 cd109 ct109), sl109⟩) (c109 : PySem.W.codeIn K cd109 "House.held" = true) (k109 : PySem.W.keepIn K (.ref f109) = true)
    {od110 an110 : Option Addr} {sl110 : Array (Option Value)} {oc110 kV110 dc110 pm110 cd110 ct110 : Value} {f110 : Addr}
    (a110 : PySem.W.findIn K (.ref gc_House) "seat" = some (some (.ref f110))) (i110 : PySem.W.isFn K (.ref f110) = true) (l110 : K.lookup f110 = some ⟨oc110, od110, .func (PySem.W.fnOf "seat" "House.seat" (defArgs s_House_seat) (defBody s_House_seat) (defScope s_House_seat) .none kV110 dc110 pm110 an110 cd110 ct110), sl110⟩) (c110 : PySem.W.codeIn K cd110 "House.seat" = true) (k110 : PySem.W.keepIn K (.ref f110) = true)
    {od111 an111 : Option Addr} {sl111 : Array (Option Value)} {oc111 kV111 dc111 pm111 cd111 ct111 : Value} {f111 : Addr}
    (a111 : PySem.W.findIn K (.ref gc_House) "coins" = some (some (.ref f111))) (i111 : PySem.W.isFn K (.ref f111) = true) (l111 : K.lookup f111 = some ⟨oc111, od111, .func (PySem.W.fnOf "coins" "House.coins" (defArgs s_House_coins) (defBody s_House_coins) (defScope s_House_coins) .none kV111 dc111 pm111 an111 cd111 ct111), sl111⟩) (c111 : PySem.W.codeIn K cd111 "House.coins" = true) (k111 : PySem.W.keepIn K (.ref f111) = true)
    {od112 an112 : Option Addr} {sl112 : Array (Option Value)} {oc112 kV112 dc112 pm112 cd112 ct112 : Value} {f112 : Addr}
    (a112 : PySem.W.findIn K (.ref gc_House) "twin" = some (some (.ref f112))) (i112 : PySem.W.isFn K (.ref f112) = true) (l112 : K.lookup f112 = some ⟨oc112, od112, .func (PySem.W.fnOf "twin" "House.twin" (defArgs s_House_twin) (defBody s_House_twin) (defScope s_House_twin) .none kV112 dc112 pm112 an112 cd112 ct112), sl112⟩) (c112 : PySem.W.codeIn K cd112 "House.twin" = true) (k112 : PySem.W.keepIn K (.ref f112) = true)
    {od113 an113 : Option Addr} {sl113 : Array (Option Value)} {oc113 kV113 dc113 pm113 cd113 ct113 : Value} {f113 : Addr}
    (a113 : PySem.W.findIn K (.ref gc_House) "keep_done" = some (some (.ref f113))) (i113 : PySem.W.isFn K (.ref f113) = true) (l113 : K.lookup f113 = some ⟨oc113, od113, .func (PySem.W.fnOf "keep_done" "House.keep_done" (defArgs s_House_keep_done) (defBody s_House_keep_done) (defScope s_House_keep_done) .none kV113 dc113 pm113 an113 cd113 ct113), sl113⟩) (c113 : PySem.W.codeIn K cd113 "House.keep_done" = true) (k113 : PySem.W.keepIn K (.ref f113) = true)
    {od114 an114 : Option Addr} {sl114 : Array (Option Value)} {oc114 kV114 dc114 pm114 cd114 ct114 : Value} {f114 : Addr}
    (a114 : PySem.W.nsIn K mainGlobals "_law_draws" = some (some (.ref f114))) (l114 : K.lookup f114 = some ⟨oc114, od114, .func (PySem.W.fnOf "_law_draws" "_law_draws" (defArgs s__law_draws) (defBody s__law_draws) (defScope s__law_draws) .none kV114 dc114 pm114 an114 cd114 ct114), sl114⟩) (c114 : PySem.W.codeIn K cd114 "_law_draws" = true) (k114 : PySem.W.keepIn K (.ref f114) = true)
    {od115 an115 : Option Addr} {sl115 : Array (Option Value)} {oc115 kV115 dc115 pm115 cd115 ct115 : Value} {f115 : Addr}
    (a115 : PySem.W.nsIn K mainGlobals "_law_same" = some (some (.ref f115))) (l115 : K.lookup f115 = some ⟨oc115, od115, .func (PySem.W.fnOf "_law_same" "_law_same" (defArgs s__law_same) (defBody s__law_same) (defScope s__law_same) .none kV115 dc115 pm115 an115 cd115 ct115), sl115⟩) (c115 : PySem.W.codeIn K cd115 "_law_same" = true) (k115 : PySem.W.keepIn K (.ref f115) = true)
    {od116 an116 : Option Addr} {sl116 : Array (Option Value)} {oc116 kV116 dc116 pm116 cd116 ct116 : Value} {f116 : Addr}
    (a116 : PySem.W.nsIn K mainGlobals "_law_names" = some (some (.ref f116))) (l116 : K.lookup f116 = some ⟨oc116, od116, .func (PySem.W.fnOf "_law_names" "_law_names" (defArgs s__law_names) (defBody s__law_names) (defScope s__law_names) .none kV116 dc116 pm116 an116 cd116 ct116), sl116⟩) (c116 : PySem.W.codeIn K cd116 "_law_names" = true) (k116 : PySem.W.keepIn K (.ref f116) = true)
    {od117 an117 : Option Addr} {sl117 : Array (Option Value)} {oc117 kV117 dc117 pm117 cd117 ct117 : Value} {f117 : Addr}
    (a117 : PySem.W.nsIn K mainGlobals "_law_is_name" = some (some (.ref f117))) (l117 : K.lookup f117 = some ⟨oc117, od117, .func (PySem.W.fnOf "_law_is_name" "_law_is_name" (defArgs s__law_is_name) (defBody s__law_is_name) (defScope s__law_is_name) .none kV117 dc117 pm117 an117 cd117 ct117), sl117⟩) (c117 : PySem.W.codeIn K cd117 "_law_is_name" = true) (k117 : PySem.W.keepIn K (.ref f117) = true)
    {od118 an118 : Option Addr} {sl118 : Array (Option Value)} {oc118 kV118 dc118 pm118 cd118 ct118 : Value} {f118 : Addr}
    (a118 : PySem.W.nsIn K mainGlobals "_law_member_deed" = some (some (.ref f118))) (l118 : K.lookup f118 = some ⟨oc118, od118, .func (PySem.W.fnOf "_law_member_deed" "_law_member_deed" (defArgs s__law_member_deed) (defBody s__law_member_deed) (defScope s__law_member_deed) .none kV118 dc118 pm118 an118 cd118 ct118), sl118⟩) (c118 : PySem.W.codeIn K cd118 "_law_member_deed" = true) (k118 : PySem.W.keepIn K (.ref f118) = true)
    {od119 an119 : Option Addr} {sl119 : Array (Option Value)} {oc119 kV119 dc119 pm119 cd119 ct119 : Value} {f119 : Addr}
    (a119 : PySem.W.nsIn K mainGlobals "_law_table_due" = some (some (.ref f119))) (l119 : K.lookup f119 = some ⟨oc119, od119, .func (PySem.W.fnOf "_law_table_due" "_law_table_due" (defArgs s__law_table_due) (defBody s__law_table_due) (defScope s__law_table_due) .none kV119 dc119 pm119 an119 cd119 ct119), sl119⟩) (c119 : PySem.W.codeIn K cd119 "_law_table_due" = true) (k119 : PySem.W.keepIn K (.ref f119) = true)
    {od120 an120 : Option Addr} {sl120 : Array (Option Value)} {oc120 kV120 dc120 pm120 cd120 ct120 : Value} {f120 : Addr}
    (a120 : PySem.W.nsIn K mainGlobals "_law_due" = some (some (.ref f120))) (l120 : K.lookup f120 = some ⟨oc120, od120, .func (PySem.W.fnOf "_law_due" "_law_due" (defArgs s__law_due) (defBody s__law_due) (defScope s__law_due) .none kV120 dc120 pm120 an120 cd120 ct120), sl120⟩) (c120 : PySem.W.codeIn K cd120 "_law_due" = true) (k120 : PySem.W.keepIn K (.ref f120) = true)
    {od121 an121 : Option Addr} {sl121 : Array (Option Value)} {oc121 kV121 dc121 pm121 cd121 ct121 : Value} {f121 : Addr}
    (a121 : PySem.W.nsIn K mainGlobals "_law_named" = some (some (.ref f121))) (l121 : K.lookup f121 = some ⟨oc121, od121, .func (PySem.W.fnOf "_law_named" "_law_named" (defArgs s__law_named) (defBody s__law_named) (defScope s__law_named) .none kV121 dc121 pm121 an121 cd121 ct121), sl121⟩) (c121 : PySem.W.codeIn K cd121 "_law_named" = true) (k121 : PySem.W.keepIn K (.ref f121) = true)
    {od122 an122 : Option Addr} {sl122 : Array (Option Value)} {oc122 kV122 dc122 pm122 cd122 ct122 : Value} {f122 : Addr}
    (a122 : PySem.W.nsIn K mainGlobals "_law_done" = some (some (.ref f122))) (l122 : K.lookup f122 = some ⟨oc122, od122, .func (PySem.W.fnOf "_law_done" "_law_done" (defArgs s__law_done) (defBody s__law_done) (defScope s__law_done) .none kV122 dc122 pm122 an122 cd122 ct122), sl122⟩) (c122 : PySem.W.codeIn K cd122 "_law_done" = true) (k122 : PySem.W.keepIn K (.ref f122) = true)
    {od123 an123 : Option Addr} {sl123 : Array (Option Value)} {oc123 kV123 dc123 pm123 cd123 ct123 : Value} {f123 : Addr}
    (a123 : PySem.W.nsIn K mainGlobals "_law_marks" = some (some (.ref f123))) (l123 : K.lookup f123 = some ⟨oc123, od123, .func (PySem.W.fnOf "_law_marks" "_law_marks" (defArgs s__law_marks) (defBody s__law_marks) (defScope s__law_marks) .none kV123 dc123 pm123 an123 cd123 ct123), sl123⟩) (c123 : PySem.W.codeIn K cd123 "_law_marks" = true) (k123 : PySem.W.keepIn K (.ref f123) = true)
    {od124 an124 : Option Addr} {sl124 : Array (Option Value)} {oc124 kV124 dc124 pm124 cd124 ct124 : Value} {f124 : Addr}
    (a124 : PySem.W.nsIn K mainGlobals "_law_table_seen" = some (some (.ref f124))) (l124 : K.lookup f124 = some ⟨oc124, od124, .func (PySem.W.fnOf "_law_table_seen" "_law_table_seen" (defArgs s__law_table_seen) (defBody s__law_table_seen) (defScope s__law_table_seen) .none kV124 dc124 pm124 an124 cd124 ct124), sl124⟩) (c124 : PySem.W.codeIn K cd124 "_law_table_seen" = true) (k124 : PySem.W.keepIn K (.ref f124) = true)
    {od125 an125 : Option Addr} {sl125 : Array (Option Value)} {oc125 kV125 dc125 pm125 cd125 ct125 : Value} {f125 : Addr}
    (a125 : PySem.W.nsIn K mainGlobals "_law_seen" = some (some (.ref f125))) (l125 : K.lookup f125 = some ⟨oc125, od125, .func (PySem.W.fnOf "_law_seen" "_law_seen" (defArgs s__law_seen) (defBody s__law_seen) (defScope s__law_seen) .none kV125 dc125 pm125 an125 cd125 ct125), sl125⟩) (c125 : PySem.W.codeIn K cd125 "_law_seen" = true) (k125 : PySem.W.keepIn K (.ref f125) = true)
    {od126 an126 : Option Addr} {sl126 : Array (Option Value)} {oc126 kV126 dc126 pm126 cd126 ct126 : Value} {f126 : Addr}
    (a126 : PySem.W.nsIn K mainGlobals "_law_missing" = some (some (.ref f126))) (l126 : K.lookup f126 = some ⟨oc126, od126, .func (PySem.W.fnOf "_law_missing" "_law_missing" (defArgs s__law_missing) (defBody s__law_missing) (defScope s__law_missing) .none kV126 dc126 pm126 an126 cd126 ct126), sl126⟩) (c126 : PySem.W.codeIn K cd126 "_law_missing" = true) (k126 : PySem.W.keepIn K (.ref f126) = true)
    {od127 an127 : Option Addr} {sl127 : Array (Option Value)} {oc127 kV127 dc127 pm127 cd127 ct127 : Value} {f127 : Addr}
    (a127 : PySem.W.nsIn K mainGlobals "law" = some (some (.ref f127))) (l127 : K.lookup f127 = some ⟨oc127, od127, .func (PySem.W.fnOf "law" "law" (defArgs s_law) (defBody s_law) (defScope s_law) .none kV127 dc127 pm127 an127 cd127 ct127), sl127⟩) (c127 : PySem.W.codeIn K cd127 "law" = true) (k127 : PySem.W.keepIn K (.ref f127) = true)
    (pg_Books : PySem.W.plainGet K gc_Books Str.empty = true)
    (hd_Books : PySem.W.hasDictIn K gc_Books = true)
    (po_Books : PySem.W.plainOver K gc_Books = true)
    (sa_Books : PySem.W.findIn K (.ref gc_Books) "__setattr__" = some (some (.builtin "object.__setattr__")))
    (mi_Books : PySem.W.makesIn K gc_Books = true)
    (kc_Books : PySem.W.keepIn K (.ref gc_Books) = true)
    (na_Books_shelves : PySem.W.findIn K (.ref gc_Books) "shelves" = some none)
    (na_Books_trail : PySem.W.findIn K (.ref gc_Books) "trail" = some none)
    (pg_Seat : PySem.W.plainGet K gc_Seat Str.empty = true)
    (hd_Seat : PySem.W.hasDictIn K gc_Seat = true)
    (po_Seat : PySem.W.plainOver K gc_Seat = true)
    (sa_Seat : PySem.W.findIn K (.ref gc_Seat) "__setattr__" = some (some (.builtin "object.__setattr__")))
    (mi_Seat : PySem.W.makesIn K gc_Seat = true)
    (kc_Seat : PySem.W.keepIn K (.ref gc_Seat) = true)
    (na_Seat_state : PySem.W.findIn K (.ref gc_Seat) "state" = some none)
    (na_Seat_since : PySem.W.findIn K (.ref gc_Seat) "since" = some none)
    (na_Seat_pledge : PySem.W.findIn K (.ref gc_Seat) "pledge" = some none)
    (na_Seat_given : PySem.W.findIn K (.ref gc_Seat) "given" = some none)
    (na_Seat_drawn : PySem.W.findIn K (.ref gc_Seat) "drawn" = some none)
    (na_Seat_shared : PySem.W.findIn K (.ref gc_Seat) "shared" = some none)
    (na_Seat_pledge_stakes : PySem.W.findIn K (.ref gc_Seat) "pledge_stakes" = some none)
    (pg_Circle : PySem.W.plainGet K gc_Circle Str.empty = true)
    (hd_Circle : PySem.W.hasDictIn K gc_Circle = true)
    (po_Circle : PySem.W.plainOver K gc_Circle = true)
    (sa_Circle : PySem.W.findIn K (.ref gc_Circle) "__setattr__" = some (some (.builtin "object.__setattr__")))
    (mi_Circle : PySem.W.makesIn K gc_Circle = true)
    (kc_Circle : PySem.W.keepIn K (.ref gc_Circle) = true)
    (na_Circle_line : PySem.W.findIn K (.ref gc_Circle) "line" = some none)
    (na_Circle_stake : PySem.W.findIn K (.ref gc_Circle) "stake" = some none)
    (na_Circle_first_pledges : PySem.W.findIn K (.ref gc_Circle) "first_pledges" = some none)
    (na_Circle_wishes : PySem.W.findIn K (.ref gc_Circle) "wishes" = some none)
    (na_Circle_bidding : PySem.W.findIn K (.ref gc_Circle) "bidding" = some none)
    (na_Circle_seats : PySem.W.findIn K (.ref gc_Circle) "seats" = some none)
    (na_Circle_open_round : PySem.W.findIn K (.ref gc_Circle) "open_round" = some none)
    (na_Circle_rests_due : PySem.W.findIn K (.ref gc_Circle) "rests_due" = some none)
    (na_Circle_chest : PySem.W.findIn K (.ref gc_Circle) "chest" = some none)
    (na_Circle_flows : PySem.W.findIn K (.ref gc_Circle) "flows" = some none)
    (pg_Table : PySem.W.plainGet K gc_Table Str.empty = true)
    (hd_Table : PySem.W.hasDictIn K gc_Table = true)
    (po_Table : PySem.W.plainOver K gc_Table = true)
    (sa_Table : PySem.W.findIn K (.ref gc_Table) "__setattr__" = some (some (.builtin "object.__setattr__")))
    (mi_Table : PySem.W.makesIn K gc_Table = true)
    (kc_Table : PySem.W.keepIn K (.ref gc_Table) = true)
    (na_Table_sitters : PySem.W.findIn K (.ref gc_Table) "sitters" = some none)
    (na_Table_circle : PySem.W.findIn K (.ref gc_Table) "circle" = some none)
    (na_Table_payments : PySem.W.findIn K (.ref gc_Table) "payments" = some none)
    (na_Table_offers : PySem.W.findIn K (.ref gc_Table) "offers" = some none)
    (na_Table_closed : PySem.W.findIn K (.ref gc_Table) "closed" = some none)
    (pg_House : PySem.W.plainGet K gc_House Str.empty = true)
    (hd_House : PySem.W.hasDictIn K gc_House = true)
    (po_House : PySem.W.plainOver K gc_House = true)
    (sa_House : PySem.W.findIn K (.ref gc_House) "__setattr__" = some (some (.builtin "object.__setattr__")))
    (mi_House : PySem.W.makesIn K gc_House = true)
    (kc_House : PySem.W.keepIn K (.ref gc_House) = true)
    (na_House_books : PySem.W.findIn K (.ref gc_House) "books" = some none)
    (na_House_kept : PySem.W.findIn K (.ref gc_House) "kept" = some none)
    (na_House_undone : PySem.W.findIn K (.ref gc_House) "undone" = some none)
    (z0 : PySem.W.nsIn K mainGlobals "abs" = some none)
    (z1 : PySem.W.nsIn K mainGlobals "all" = some none)
    (z2 : PySem.W.nsIn K mainGlobals "any" = some none)
    (z3 : PySem.W.nsIn K mainGlobals "bool" = some none)
    (z4 : PySem.W.nsIn K mainGlobals "dict" = some none)
    (z5 : PySem.W.nsIn K mainGlobals "enumerate" = some none)
    (z6 : PySem.W.nsIn K mainGlobals "int" = some none)
    (z7 : PySem.W.nsIn K mainGlobals "isinstance" = some none)
    (z8 : PySem.W.nsIn K mainGlobals "len" = some none)
    (z9 : PySem.W.nsIn K mainGlobals "list" = some none)
    (z10 : PySem.W.nsIn K mainGlobals "max" = some none)
    (z11 : PySem.W.nsIn K mainGlobals "min" = some none)
    (z12 : PySem.W.nsIn K mainGlobals "range" = some none)
    (z13 : PySem.W.nsIn K mainGlobals "set" = some none)
    (z14 : PySem.W.nsIn K mainGlobals "sorted" = some none)
    (z15 : PySem.W.nsIn K mainGlobals "str" = some none)
    (z16 : PySem.W.nsIn K mainGlobals "sum" = some none)
    (z17 : PySem.W.nsIn K mainGlobals "tuple" = some none)
    (z18 : PySem.W.nsIn K mainGlobals "zip" = some none)
    {tk0 : Tok} (n0 : PySem.W.nsIn K mainGlobals "MEMBERS" = some (some (.str "members" tk0)))
    {tk1 : Tok} (n1 : PySem.W.nsIn K mainGlobals "TABLES" = some (some (.str "tables" tk1)))
    {tk2 : Tok} (n2 : PySem.W.nsIn K mainGlobals "SUMS" = some (some (.str "sums" tk2)))
    {tk3 : Tok} (n3 : PySem.W.nsIn K mainGlobals "BROUGHT" = some (some (.str "brought" tk3)))
    {tk4 : Tok} (n4 : PySem.W.nsIn K mainGlobals "MOST_STAKE" = some (some (.int 1000000 tk4)))
    {tk5 : Tok} (n5 : PySem.W.nsIn K mainGlobals "LEAST_SEATS" = some (some (.int 2 tk5)))
    {tk6 : Tok} (n6 : PySem.W.nsIn K mainGlobals "MOST_SEATS" = some (some (.int 20 tk6)))
    {tk7 : Tok} (n7 : PySem.W.nsIn K mainGlobals "MOST_COINS" = some (some (.int 1000000000 tk7)))
    {tk8 : Tok} (n8 : PySem.W.nsIn K mainGlobals "WAITS" = some (some (.str "waits" tk8)))
    {tk9 : Tok} (n9 : PySem.W.nsIn K mainGlobals "DREW" = some (some (.str "drew" tk9)))
    {tk10 : Tok} (n10 : PySem.W.nsIn K mainGlobals "FELL" = some (some (.str "fell" tk10)))
    {tk11 : Tok} (n11 : PySem.W.nsIn K mainGlobals "LETTERS" = some (some (.str "abcdefghijklmnopqrstuvwxyz" tk11)))
    {tk12 : Tok} (n12 : PySem.W.nsIn K mainGlobals "LONGEST_NAME" = some (some (.int 12 tk12)))
    (cc0 : cd9 = .ref 326)
    {fc0 : Addr}
    (x1 : PySem.W.nsIn K mainGlobals "SusuError" = some (some (.ref fc0)))
    {fc2 : Addr}
    (x3 : PySem.W.nsIn K mainGlobals "BadName" = some (some (.ref fc2)))
    {fc4 : Addr}
    (x5 : PySem.W.nsIn K mainGlobals "BadNumber" = some (some (.ref fc4)))
    {fc6 : Addr}
    (x7 : PySem.W.nsIn K mainGlobals "Known" = some (some (.ref fc6)))
    {fc8 : Addr}
    (x9 : PySem.W.nsIn K mainGlobals "Unknown" = some (some (.ref fc8)))
    {fc10 : Addr}
    (x11 : PySem.W.nsIn K mainGlobals "Twice" = some (some (.ref fc10)))
    {fc12 : Addr}
    (x13 : PySem.W.nsIn K mainGlobals "Seated" = some (some (.ref fc12)))
    {fc14 : Addr}
    (x15 : PySem.W.nsIn K mainGlobals "Holding" = some (some (.ref fc14)))
    {fc16 : Addr}
    (x17 : PySem.W.nsIn K mainGlobals "Short" = some (some (.ref fc16)))
    {fc18 : Addr}
    (x19 : PySem.W.nsIn K mainGlobals "NoSeat" = some (some (.ref fc18)))
    {fc20 : Addr}
    (x21 : PySem.W.nsIn K mainGlobals "Ended" = some (some (.ref fc20)))
    {fc22 : Addr}
    (x23 : PySem.W.nsIn K mainGlobals "Fell" = some (some (.ref fc22)))
    {fc24 : Addr}
    (x25 : PySem.W.nsIn K mainGlobals "Paid" = some (some (.ref fc24)))
    {fc26 : Addr}
    (x27 : PySem.W.nsIn K mainGlobals "NoBids" = some (some (.ref fc26)))
    {fc28 : Addr}
    (x29 : PySem.W.nsIn K mainGlobals "NotWaiting" = some (some (.ref fc28)))
    {fc30 : Addr}
    (x31 : PySem.W.nsIn K mainGlobals "Uncovered" = some (some (.ref fc30)))
    {fc32 : Addr}
    (x33 : PySem.W.nsIn K mainGlobals "NoOrder" = some (some (.ref fc32)))
    (x34 : PySem.W.excIn K fc2 vErr "ValueError.__new__" = true)
    (x35 : PySem.W.keepIn K (.ref fc2) = true)
    (x36_0 : PySem.W.findIn K (.ref fc2) "__getattribute__" = some (some (.builtin "BaseException.__getattribute__")))
    (x36_1 : PySem.W.findIn K (.ref fc2) "__getattr__" = some none)
    (x36_2 : PySem.W.subIn K (.ref fc2) (.type "BaseException") = some true)
    (x36_3 : PySem.W.hasDictIn K fc2 = true)
    (x36_4 : PySem.W.findIn K (.ref fc2) "__class__" = some (some (.builtin "object.__class__")))
    (x36_5 : PySem.W.specialIn K (.builtin "object.__class__") "__get__" = some (some (.builtin "getset_descriptor.__get__")))
    (x36_6 : PySem.W.takesIn K (.builtin "object.__class__") = some true)
    (x36_7 : PySem.W.mroIn K fc2 (.type "object") = some true)
    (x37 : PySem.W.subIn K (.ref fc2) (.ref fc0) = some true)
    (x38 : PySem.W.subIn K (.ref fc2) (.ref fc8) = some false)
    (x39 : PySem.W.kitOne K (.ref fc2) (.ref fc2) = some true)
    (x40 : PySem.W.kitOne K (.ref fc2) (.ref fc4) = some false)
    (x41 : PySem.W.kitOne K (.ref fc2) (.ref fc6) = some false)
    (x42 : PySem.W.kitOne K (.ref fc2) (.ref fc8) = some false)
    (x43 : PySem.W.kitOne K (.ref fc2) (.ref fc10) = some false)
    (x44 : PySem.W.kitOne K (.ref fc2) (.ref fc12) = some false)
    (x45 : PySem.W.kitOne K (.ref fc2) (.ref fc14) = some false)
    (x46 : PySem.W.kitOne K (.ref fc2) (.ref fc16) = some false)
    (x47 : PySem.W.kitOne K (.ref fc2) (.ref fc18) = some false)
    (x48 : PySem.W.kitOne K (.ref fc2) (.ref fc20) = some false)
    (x49 : PySem.W.kitOne K (.ref fc2) (.ref fc22) = some false)
    (x50 : PySem.W.kitOne K (.ref fc2) (.ref fc24) = some false)
    (x51 : PySem.W.kitOne K (.ref fc2) (.ref fc26) = some false)
    (x52 : PySem.W.kitOne K (.ref fc2) (.ref fc28) = some false)
    (x53 : PySem.W.kitOne K (.ref fc2) (.ref fc30) = some false)
    (x54 : PySem.W.kitOne K (.ref fc2) (.ref fc32) = some false)
    (x55 : PySem.W.excIn K fc4 vErr "ValueError.__new__" = true)
    (x56 : PySem.W.keepIn K (.ref fc4) = true)
    (x57_0 : PySem.W.findIn K (.ref fc4) "__getattribute__" = some (some (.builtin "BaseException.__getattribute__")))
    (x57_1 : PySem.W.findIn K (.ref fc4) "__getattr__" = some none)
    (x57_2 : PySem.W.subIn K (.ref fc4) (.type "BaseException") = some true)
    (x57_3 : PySem.W.hasDictIn K fc4 = true)
    (x57_4 : PySem.W.findIn K (.ref fc4) "__class__" = some (some (.builtin "object.__class__")))
    (x57_5 : PySem.W.specialIn K (.builtin "object.__class__") "__get__" = some (some (.builtin "getset_descriptor.__get__")))
    (x57_6 : PySem.W.takesIn K (.builtin "object.__class__") = some true)
    (x57_7 : PySem.W.mroIn K fc4 (.type "object") = some true)
    (x58 : PySem.W.subIn K (.ref fc4) (.ref fc0) = some true)
    (x59 : PySem.W.subIn K (.ref fc4) (.ref fc8) = some false)
    (x60 : PySem.W.kitOne K (.ref fc4) (.ref fc2) = some false)
    (x61 : PySem.W.kitOne K (.ref fc4) (.ref fc4) = some true)
    (x62 : PySem.W.kitOne K (.ref fc4) (.ref fc6) = some false)
    (x63 : PySem.W.kitOne K (.ref fc4) (.ref fc8) = some false)
    (x64 : PySem.W.kitOne K (.ref fc4) (.ref fc10) = some false)
    (x65 : PySem.W.kitOne K (.ref fc4) (.ref fc12) = some false)
    (x66 : PySem.W.kitOne K (.ref fc4) (.ref fc14) = some false)
    (x67 : PySem.W.kitOne K (.ref fc4) (.ref fc16) = some false)
    (x68 : PySem.W.kitOne K (.ref fc4) (.ref fc18) = some false)
    (x69 : PySem.W.kitOne K (.ref fc4) (.ref fc20) = some false)
    (x70 : PySem.W.kitOne K (.ref fc4) (.ref fc22) = some false)
    (x71 : PySem.W.kitOne K (.ref fc4) (.ref fc24) = some false)
    (x72 : PySem.W.kitOne K (.ref fc4) (.ref fc26) = some false)
    (x73 : PySem.W.kitOne K (.ref fc4) (.ref fc28) = some false)
    (x74 : PySem.W.kitOne K (.ref fc4) (.ref fc30) = some false)
    (x75 : PySem.W.kitOne K (.ref fc4) (.ref fc32) = some false)
    (x76 : PySem.W.excIn K fc6 vErr "ValueError.__new__" = true)
    (x77 : PySem.W.keepIn K (.ref fc6) = true)
    (x78_0 : PySem.W.findIn K (.ref fc6) "__getattribute__" = some (some (.builtin "BaseException.__getattribute__")))
    (x78_1 : PySem.W.findIn K (.ref fc6) "__getattr__" = some none)
    (x78_2 : PySem.W.subIn K (.ref fc6) (.type "BaseException") = some true)
    (x78_3 : PySem.W.hasDictIn K fc6 = true)
    (x78_4 : PySem.W.findIn K (.ref fc6) "__class__" = some (some (.builtin "object.__class__")))
    (x78_5 : PySem.W.specialIn K (.builtin "object.__class__") "__get__" = some (some (.builtin "getset_descriptor.__get__")))
    (x78_6 : PySem.W.takesIn K (.builtin "object.__class__") = some true)
    (x78_7 : PySem.W.mroIn K fc6 (.type "object") = some true)
    (x79 : PySem.W.subIn K (.ref fc6) (.ref fc0) = some true)
    (x80 : PySem.W.subIn K (.ref fc6) (.ref fc8) = some false)
    (x81 : PySem.W.kitOne K (.ref fc6) (.ref fc2) = some false)
    (x82 : PySem.W.kitOne K (.ref fc6) (.ref fc4) = some false)
    (x83 : PySem.W.kitOne K (.ref fc6) (.ref fc6) = some true)
    (x84 : PySem.W.kitOne K (.ref fc6) (.ref fc8) = some false)
    (x85 : PySem.W.kitOne K (.ref fc6) (.ref fc10) = some false)
    (x86 : PySem.W.kitOne K (.ref fc6) (.ref fc12) = some false)
    (x87 : PySem.W.kitOne K (.ref fc6) (.ref fc14) = some false)
    (x88 : PySem.W.kitOne K (.ref fc6) (.ref fc16) = some false)
    (x89 : PySem.W.kitOne K (.ref fc6) (.ref fc18) = some false)
    (x90 : PySem.W.kitOne K (.ref fc6) (.ref fc20) = some false)
    (x91 : PySem.W.kitOne K (.ref fc6) (.ref fc22) = some false)
    (x92 : PySem.W.kitOne K (.ref fc6) (.ref fc24) = some false)
    (x93 : PySem.W.kitOne K (.ref fc6) (.ref fc26) = some false)
    (x94 : PySem.W.kitOne K (.ref fc6) (.ref fc28) = some false)
    (x95 : PySem.W.kitOne K (.ref fc6) (.ref fc30) = some false)
    (x96 : PySem.W.kitOne K (.ref fc6) (.ref fc32) = some false)
    (x97 : PySem.W.excIn K fc8 vErr "ValueError.__new__" = true)
    (x98 : PySem.W.keepIn K (.ref fc8) = true)
    (x99_0 : PySem.W.findIn K (.ref fc8) "__getattribute__" = some (some (.builtin "BaseException.__getattribute__")))
    (x99_1 : PySem.W.findIn K (.ref fc8) "__getattr__" = some none)
    (x99_2 : PySem.W.subIn K (.ref fc8) (.type "BaseException") = some true)
    (x99_3 : PySem.W.hasDictIn K fc8 = true)
    (x99_4 : PySem.W.findIn K (.ref fc8) "__class__" = some (some (.builtin "object.__class__")))
    (x99_5 : PySem.W.specialIn K (.builtin "object.__class__") "__get__" = some (some (.builtin "getset_descriptor.__get__")))
    (x99_6 : PySem.W.takesIn K (.builtin "object.__class__") = some true)
    (x99_7 : PySem.W.mroIn K fc8 (.type "object") = some true)
    (x100 : PySem.W.subIn K (.ref fc8) (.ref fc0) = some true)
    (x101 : PySem.W.subIn K (.ref fc8) (.ref fc8) = some true)
    (x102 : PySem.W.kitOne K (.ref fc8) (.ref fc2) = some false)
    (x103 : PySem.W.kitOne K (.ref fc8) (.ref fc4) = some false)
    (x104 : PySem.W.kitOne K (.ref fc8) (.ref fc6) = some false)
    (x105 : PySem.W.kitOne K (.ref fc8) (.ref fc8) = some true)
    (x106 : PySem.W.kitOne K (.ref fc8) (.ref fc10) = some false)
    (x107 : PySem.W.kitOne K (.ref fc8) (.ref fc12) = some false)
    (x108 : PySem.W.kitOne K (.ref fc8) (.ref fc14) = some false)
    (x109 : PySem.W.kitOne K (.ref fc8) (.ref fc16) = some false)
    (x110 : PySem.W.kitOne K (.ref fc8) (.ref fc18) = some false)
    (x111 : PySem.W.kitOne K (.ref fc8) (.ref fc20) = some false)
    (x112 : PySem.W.kitOne K (.ref fc8) (.ref fc22) = some false)
    (x113 : PySem.W.kitOne K (.ref fc8) (.ref fc24) = some false)
    (x114 : PySem.W.kitOne K (.ref fc8) (.ref fc26) = some false)
    (x115 : PySem.W.kitOne K (.ref fc8) (.ref fc28) = some false)
    (x116 : PySem.W.kitOne K (.ref fc8) (.ref fc30) = some false)
    (x117 : PySem.W.kitOne K (.ref fc8) (.ref fc32) = some false)
    (x118 : PySem.W.excIn K fc12 vErr "ValueError.__new__" = true)
    (x119 : PySem.W.keepIn K (.ref fc12) = true)
    (x120_0 : PySem.W.findIn K (.ref fc12) "__getattribute__" = some (some (.builtin "BaseException.__getattribute__")))
    (x120_1 : PySem.W.findIn K (.ref fc12) "__getattr__" = some none)
    (x120_2 : PySem.W.subIn K (.ref fc12) (.type "BaseException") = some true)
    (x120_3 : PySem.W.hasDictIn K fc12 = true)
    (x120_4 : PySem.W.findIn K (.ref fc12) "__class__" = some (some (.builtin "object.__class__")))
    (x120_5 : PySem.W.specialIn K (.builtin "object.__class__") "__get__" = some (some (.builtin "getset_descriptor.__get__")))
    (x120_6 : PySem.W.takesIn K (.builtin "object.__class__") = some true)
    (x120_7 : PySem.W.mroIn K fc12 (.type "object") = some true)
    (x121 : PySem.W.subIn K (.ref fc12) (.ref fc0) = some true)
    (x122 : PySem.W.subIn K (.ref fc12) (.ref fc8) = some false)
    (x123 : PySem.W.kitOne K (.ref fc12) (.ref fc2) = some false)
    (x124 : PySem.W.kitOne K (.ref fc12) (.ref fc4) = some false)
    (x125 : PySem.W.kitOne K (.ref fc12) (.ref fc6) = some false)
    (x126 : PySem.W.kitOne K (.ref fc12) (.ref fc8) = some false)
    (x127 : PySem.W.kitOne K (.ref fc12) (.ref fc10) = some false)
    (x128 : PySem.W.kitOne K (.ref fc12) (.ref fc12) = some true)
    (x129 : PySem.W.kitOne K (.ref fc12) (.ref fc14) = some false)
    (x130 : PySem.W.kitOne K (.ref fc12) (.ref fc16) = some false)
    (x131 : PySem.W.kitOne K (.ref fc12) (.ref fc18) = some false)
    (x132 : PySem.W.kitOne K (.ref fc12) (.ref fc20) = some false)
    (x133 : PySem.W.kitOne K (.ref fc12) (.ref fc22) = some false)
    (x134 : PySem.W.kitOne K (.ref fc12) (.ref fc24) = some false)
    (x135 : PySem.W.kitOne K (.ref fc12) (.ref fc26) = some false)
    (x136 : PySem.W.kitOne K (.ref fc12) (.ref fc28) = some false)
    (x137 : PySem.W.kitOne K (.ref fc12) (.ref fc30) = some false)
    (x138 : PySem.W.kitOne K (.ref fc12) (.ref fc32) = some false)
    (x139 : PySem.W.excIn K fc14 vErr "ValueError.__new__" = true)
    (x140 : PySem.W.keepIn K (.ref fc14) = true)
    (x141_0 : PySem.W.findIn K (.ref fc14) "__getattribute__" = some (some (.builtin "BaseException.__getattribute__")))
    (x141_1 : PySem.W.findIn K (.ref fc14) "__getattr__" = some none)
    (x141_2 : PySem.W.subIn K (.ref fc14) (.type "BaseException") = some true)
    (x141_3 : PySem.W.hasDictIn K fc14 = true)
    (x141_4 : PySem.W.findIn K (.ref fc14) "__class__" = some (some (.builtin "object.__class__")))
    (x141_5 : PySem.W.specialIn K (.builtin "object.__class__") "__get__" = some (some (.builtin "getset_descriptor.__get__")))
    (x141_6 : PySem.W.takesIn K (.builtin "object.__class__") = some true)
    (x141_7 : PySem.W.mroIn K fc14 (.type "object") = some true)
    (x142 : PySem.W.subIn K (.ref fc14) (.ref fc0) = some true)
    (x143 : PySem.W.subIn K (.ref fc14) (.ref fc8) = some false)
    (x144 : PySem.W.kitOne K (.ref fc14) (.ref fc2) = some false)
    (x145 : PySem.W.kitOne K (.ref fc14) (.ref fc4) = some false)
    (x146 : PySem.W.kitOne K (.ref fc14) (.ref fc6) = some false)
    (x147 : PySem.W.kitOne K (.ref fc14) (.ref fc8) = some false)
    (x148 : PySem.W.kitOne K (.ref fc14) (.ref fc10) = some false)
    (x149 : PySem.W.kitOne K (.ref fc14) (.ref fc12) = some false)
    (x150 : PySem.W.kitOne K (.ref fc14) (.ref fc14) = some true)
    (x151 : PySem.W.kitOne K (.ref fc14) (.ref fc16) = some false)
    (x152 : PySem.W.kitOne K (.ref fc14) (.ref fc18) = some false)
    (x153 : PySem.W.kitOne K (.ref fc14) (.ref fc20) = some false)
    (x154 : PySem.W.kitOne K (.ref fc14) (.ref fc22) = some false)
    (x155 : PySem.W.kitOne K (.ref fc14) (.ref fc24) = some false)
    (x156 : PySem.W.kitOne K (.ref fc14) (.ref fc26) = some false)
    (x157 : PySem.W.kitOne K (.ref fc14) (.ref fc28) = some false)
    (x158 : PySem.W.kitOne K (.ref fc14) (.ref fc30) = some false)
    (x159 : PySem.W.kitOne K (.ref fc14) (.ref fc32) = some false)
    (x160 : PySem.W.excIn K fc16 vErr "ValueError.__new__" = true)
    (x161 : PySem.W.keepIn K (.ref fc16) = true)
    (x162_0 : PySem.W.findIn K (.ref fc16) "__getattribute__" = some (some (.builtin "BaseException.__getattribute__")))
    (x162_1 : PySem.W.findIn K (.ref fc16) "__getattr__" = some none)
    (x162_2 : PySem.W.subIn K (.ref fc16) (.type "BaseException") = some true)
    (x162_3 : PySem.W.hasDictIn K fc16 = true)
    (x162_4 : PySem.W.findIn K (.ref fc16) "__class__" = some (some (.builtin "object.__class__")))
    (x162_5 : PySem.W.specialIn K (.builtin "object.__class__") "__get__" = some (some (.builtin "getset_descriptor.__get__")))
    (x162_6 : PySem.W.takesIn K (.builtin "object.__class__") = some true)
    (x162_7 : PySem.W.mroIn K fc16 (.type "object") = some true)
    (x163 : PySem.W.subIn K (.ref fc16) (.ref fc0) = some true)
    (x164 : PySem.W.subIn K (.ref fc16) (.ref fc8) = some false)
    (x165 : PySem.W.kitOne K (.ref fc16) (.ref fc2) = some false)
    (x166 : PySem.W.kitOne K (.ref fc16) (.ref fc4) = some false)
    (x167 : PySem.W.kitOne K (.ref fc16) (.ref fc6) = some false)
    (x168 : PySem.W.kitOne K (.ref fc16) (.ref fc8) = some false)
    (x169 : PySem.W.kitOne K (.ref fc16) (.ref fc10) = some false)
    (x170 : PySem.W.kitOne K (.ref fc16) (.ref fc12) = some false)
    (x171 : PySem.W.kitOne K (.ref fc16) (.ref fc14) = some false)
    (x172 : PySem.W.kitOne K (.ref fc16) (.ref fc16) = some true)
    (x173 : PySem.W.kitOne K (.ref fc16) (.ref fc18) = some false)
    (x174 : PySem.W.kitOne K (.ref fc16) (.ref fc20) = some false)
    (x175 : PySem.W.kitOne K (.ref fc16) (.ref fc22) = some false)
    (x176 : PySem.W.kitOne K (.ref fc16) (.ref fc24) = some false)
    (x177 : PySem.W.kitOne K (.ref fc16) (.ref fc26) = some false)
    (x178 : PySem.W.kitOne K (.ref fc16) (.ref fc28) = some false)
    (x179 : PySem.W.kitOne K (.ref fc16) (.ref fc30) = some false)
    (x180 : PySem.W.kitOne K (.ref fc16) (.ref fc32) = some false)
    (x181 : PySem.W.subIn K (.ref fc2) (.type "BaseException") = some true)
    (x182 : PySem.W.typeIn K (.ref fc2) = some (.type "type"))
    (x183 : PySem.W.subIn K (.ref fc4) (.type "BaseException") = some true)
    (x184 : PySem.W.typeIn K (.ref fc4) = some (.type "type"))
    (x185 : PySem.W.subIn K (.ref fc14) (.type "BaseException") = some true)
    (x186 : PySem.W.typeIn K (.ref fc14) = some (.type "type"))
    (x187 : PySem.W.subIn K (.ref fc6) (.type "BaseException") = some true)
    (x188 : PySem.W.typeIn K (.ref fc6) = some (.type "type"))
    (x189 : PySem.W.subIn K (.ref fc12) (.type "BaseException") = some true)
    (x190 : PySem.W.typeIn K (.ref fc12) = some (.type "type"))
    (x191 : PySem.W.subIn K (.ref fc16) (.type "BaseException") = some true)
    (x192 : PySem.W.typeIn K (.ref fc16) = some (.type "type"))
    (x193 : PySem.W.subIn K (.ref fc0) (.type "BaseException") = some true)
    (x194 : PySem.W.typeIn K (.ref fc0) = some (.type "type"))
    (x195 : PySem.W.subIn K (.ref fc8) (.type "BaseException") = some true)
    (x196 : PySem.W.typeIn K (.ref fc8) = some (.type "type"))
    (x197 : PySem.W.hasDictIn K fc0 = true)
    (x198 : PySem.W.hasDictIn K fc8 = true)
    {fq0 : Addr} (mq0 : PySem.W.nsIn K mainGlobals "ACTIONS" = some (some (.ref fq0))) : Top K mg where
      d__wall := ⟨f0, _, fun_mk (st := s__wall) l0 c0 k0, (fun_mk (st := s__wall) l0 c0 k0).binds (ps := ["k"]) (fun _ _ _ _ _ _ us hl => match us, hl with | [_], _ => rfl)⟩
      m__wall := PySem.W.mg_of X G a0
      d_Books___init__ := ⟨f1, _, fun_mk (st := s_Books___init__) l1 c1 k1, (fun_mk (st := s_Books___init__) l1 c1 k1).binds (ps := ["self"]) (fun _ _ _ _ _ _ us hl => match us, hl with | [_], _ => rfl)⟩
      d_Books_put := ⟨⟨f2, _, fun_mk (st := s_Books_put) l2 c2 k2, (fun_mk (st := s_Books_put) l2 c2 k2).binds (ps := ["self", "shelf", "name", "thing"]) (fun _ _ _ _ _ _ us hl => match us, hl with | [_, _, _, _], _ => rfl)⟩, ⟨a2, i2, k2⟩⟩
      d_Books_undo_to := ⟨⟨f3, _, fun_mk (st := s_Books_undo_to) l3 c3 k3, (fun_mk (st := s_Books_undo_to) l3 c3 k3).binds (ps := ["self", "mark"]) (fun _ _ _ _ _ _ us hl => match us, hl with | [_, _], _ => rfl)⟩, ⟨a3, i3, k3⟩⟩
      d_Books_has_member := ⟨⟨f4, _, fun_mk (st := s_Books_has_member) l4 c4 k4, (fun_mk (st := s_Books_has_member) l4 c4 k4).binds (ps := ["self", "name"]) (fun _ _ _ _ _ _ us hl => match us, hl with | [_, _], _ => rfl)⟩, ⟨a4, i4, k4⟩⟩
      d_Books_has_table := ⟨⟨f5, _, fun_mk (st := s_Books_has_table) l5 c5 k5, (fun_mk (st := s_Books_has_table) l5 c5 k5).binds (ps := ["self", "circle"]) (fun _ _ _ _ _ _ us hl => match us, hl with | [_, _], _ => rfl)⟩, ⟨a5, i5, k5⟩⟩
      d_Books_purse_of := ⟨⟨f6, _, fun_mk (st := s_Books_purse_of) l6 c6 k6, (fun_mk (st := s_Books_purse_of) l6 c6 k6).binds (ps := ["self", "name"]) (fun _ _ _ _ _ _ us hl => match us, hl with | [_, _], _ => rfl)⟩, ⟨a6, i6, k6⟩⟩
      d_Books_table_of := ⟨⟨f7, _, fun_mk (st := s_Books_table_of) l7 c7 k7, (fun_mk (st := s_Books_table_of) l7 c7 k7).binds (ps := ["self", "circle"]) (fun _ _ _ _ _ _ us hl => match us, hl with | [_, _], _ => rfl)⟩, ⟨a7, i7, k7⟩⟩
      d_Books_brought := ⟨⟨f8, _, fun_mk (st := s_Books_brought) l8 c8 k8, (fun_mk (st := s_Books_brought) l8 c8 k8).binds (ps := ["self"]) (fun _ _ _ _ _ _ us hl => match us, hl with | [_], _ => rfl)⟩, ⟨a8, i8, k8⟩⟩
      d_Books_member_names := ⟨⟨f9, _, fun_mk (st := s_Books_member_names) l9 c9 k9, (fun_mk (st := s_Books_member_names) l9 c9 k9).binds (ps := ["self"]) (fun _ _ _ _ _ _ us hl => match us, hl with | [_], _ => rfl)⟩, ⟨a9, i9, k9⟩⟩
      d_Books_table_names := ⟨⟨f10, _, fun_mk (st := s_Books_table_names) l10 c10 k10, (fun_mk (st := s_Books_table_names) l10 c10 k10).binds (ps := ["self"]) (fun _ _ _ _ _ _ us hl => match us, hl with | [_], _ => rfl)⟩, ⟨a10, i10, k10⟩⟩
      d_Books_all_tables := ⟨⟨f11, _, fun_mk (st := s_Books_all_tables) l11 c11 k11, (fun_mk (st := s_Books_all_tables) l11 c11 k11).binds (ps := ["self"]) (fun _ _ _ _ _ _ us hl => match us, hl with | [_], _ => rfl)⟩, ⟨a11, i11, k11⟩⟩
      d_Books_add_member := ⟨⟨f12, _, fun_mk (st := s_Books_add_member) l12 c12 k12, (fun_mk (st := s_Books_add_member) l12 c12 k12).binds (ps := ["self", "name"]) (fun _ _ _ _ _ _ us hl => match us, hl with | [_, _], _ => rfl)⟩, ⟨a12, i12, k12⟩⟩
      d_Books_drop_member := ⟨⟨f13, _, fun_mk (st := s_Books_drop_member) l13 c13 k13, (fun_mk (st := s_Books_drop_member) l13 c13 k13).binds (ps := ["self", "name"]) (fun _ _ _ _ _ _ us hl => match us, hl with | [_, _], _ => rfl)⟩, ⟨a13, i13, k13⟩⟩
      d_Books_put_table := ⟨⟨f14, _, fun_mk (st := s_Books_put_table) l14 c14 k14, (fun_mk (st := s_Books_put_table) l14 c14 k14).binds (ps := ["self", "circle", "table"]) (fun _ _ _ _ _ _ us hl => match us, hl with | [_, _, _], _ => rfl)⟩, ⟨a14, i14, k14⟩⟩
      d_Books_add_coins := ⟨⟨f15, _, fun_mk (st := s_Books_add_coins) l15 c15 k15, (fun_mk (st := s_Books_add_coins) l15 c15 k15).binds (ps := ["self", "name", "coins"]) (fun _ _ _ _ _ _ us hl => match us, hl with | [_, _, _], _ => rfl)⟩, ⟨a15, i15, k15⟩⟩
      d_Books_add_brought := ⟨⟨f16, _, fun_mk (st := s_Books_add_brought) l16 c16 k16, (fun_mk (st := s_Books_add_brought) l16 c16 k16).binds (ps := ["self", "coins"]) (fun _ _ _ _ _ _ us hl => match us, hl with | [_, _], _ => rfl)⟩, ⟨a16, i16, k16⟩⟩
      d_Books_refuse_short := ⟨⟨f17, _, fun_mk (st := s_Books_refuse_short) l17 c17 k17, (fun_mk (st := s_Books_refuse_short) l17 c17 k17).binds (ps := ["self", "name", "coins"]) (fun _ _ _ _ _ _ us hl => match us, hl with | [_, _, _], _ => rfl)⟩, ⟨a17, i17, k17⟩⟩
      d_Books_twin := ⟨⟨f18, _, fun_mk (st := s_Books_twin) l18 c18 k18, (fun_mk (st := s_Books_twin) l18 c18 k18).binds (ps := ["self"]) (fun _ _ _ _ _ _ us hl => match us, hl with | [_], _ => rfl)⟩, ⟨a18, i18, k18⟩⟩
      d_set_down := ⟨f19, _, fun_mk (st := s_set_down) l19 c19 k19, (fun_mk (st := s_set_down) l19 c19 k19).binds (ps := ["shelf", "name", "thing"]) (fun _ _ _ _ _ _ us hl => match us, hl with | [_, _, _], _ => rfl)⟩
      m_set_down := PySem.W.mg_of X G a19
      d_first_covered := ⟨f20, _, fun_mk (st := s_first_covered) l20 c20 k20, (fun_mk (st := s_first_covered) l20 c20 k20).binds (ps := ["stake", "seats", "pledge"]) (fun _ _ _ _ _ _ us hl => match us, hl with | [_, _, _], _ => rfl)⟩
      m_first_covered := PySem.W.mg_of X G a20
      d_is_covered := ⟨f21, _, fun_mk (st := s_is_covered) l21 c21 k21, (fun_mk (st := s_is_covered) l21 c21 k21).binds (ps := ["stake", "seats", "pledge", "turn"]) (fun _ _ _ _ _ _ us hl => match us, hl with | [_, _, _, _], _ => rfl)⟩
      m_is_covered := PySem.W.mg_of X G a21
      d_within := ⟨f22, _, fun_mk (st := s_within) l22 c22 k22, (fun_mk (st := s_within) l22 c22 k22).binds (ps := ["windows", "a", "b"]) (fun _ _ _ _ _ _ us hl => match us, hl with | [_, _, _], _ => rfl)⟩
      m_within := PySem.W.mg_of X G a22
      d_order_or_bar := ⟨f23, _, fun_mk (st := s_order_or_bar) l23 c23 k23, (fun_mk (st := s_order_or_bar) l23 c23 k23).binds (ps := ["windows"]) (fun _ _ _ _ _ _ us hl => match us, hl with | [_], _ => rfl)⟩
      m_order_or_bar := PySem.W.mg_of X G a23
      d_told_order := ⟨f24, _, fun_mk (st := s_told_order) l24 c24 k24, (fun_mk (st := s_told_order) l24 c24 k24).binds (ps := ["windows"]) (fun _ _ _ _ _ _ us hl => match us, hl with | [_], _ => rfl)⟩
      m_told_order := PySem.W.mg_of X G a24
      d_fullest_span := ⟨f25, _, fun_mk (st := s_fullest_span) l25 c25 k25, (fun_mk (st := s_fullest_span) l25 c25 k25).binds (ps := ["windows"]) (fun _ _ _ _ _ _ us hl => match us, hl with | [_], _ => rfl)⟩
      m_fullest_span := PySem.W.mg_of X G a25
      d_surplus := ⟨f26, _, fun_mk (st := s_surplus) l26 c26 k26, (fun_mk (st := s_surplus) l26 c26 k26).binds (ps := ["windows", "a", "b"]) (fun _ _ _ _ _ _ us hl => match us, hl with | [_, _, _], _ => rfl)⟩
      m_surplus := PySem.W.mg_of X G a26
      d_rounds_between := ⟨f27, _, fun_mk (st := s_rounds_between) l27 c27 k27, (fun_mk (st := s_rounds_between) l27 c27 k27).binds (ps := ["a", "b"]) (fun _ _ _ _ _ _ us hl => match us, hl with | [_, _], _ => rfl)⟩
      m_rounds_between := PySem.W.mg_of X G a27
      d_Seat___init__ := ⟨f28, _, fun_mk (st := s_Seat___init__) l28 c28 k28, (fun_mk (st := s_Seat___init__) l28 c28 k28).binds (ps := ["self", "pledge"]) (fun _ _ _ _ _ _ us hl => match us, hl with | [_, _], _ => rfl)⟩
      d_Seat_twin := ⟨⟨f29, _, fun_mk (st := s_Seat_twin) l29 c29 k29, (fun_mk (st := s_Seat_twin) l29 c29 k29).binds (ps := ["self"]) (fun _ _ _ _ _ _ us hl => match us, hl with | [_], _ => rfl)⟩, ⟨a29, i29, k29⟩⟩
      d_Circle___init__ := ⟨f30, _, (fund_mk (params := defArgs s_Circle___init__) (body := defBody s_Circle___init__) (scope := defScope s_Circle___init__) (dvs := [.bl false]) l30 c30 k30 e30 (.cons rfl .nil)), binds_full (fund_mk (params := defArgs s_Circle___init__) (body := defBody s_Circle___init__) (scope := defScope s_Circle___init__) (dvs := [.bl false]) l30 c30 k30 e30 (.cons rfl .nil)) (fun _ _ _ _ _ _ _ us its hl hi => match us, hl, its, hi with | [_, _, _, _, _], _, [_], _ => ⟨_, rfl, rfl⟩), FunD.binds1 (ps := ["self", "stake", "pledges", "wishes", "bidding"]) (dvs := [.bl false]) (fund_mk (params := defArgs s_Circle___init__) (body := defBody s_Circle___init__) (scope := defScope s_Circle___init__) (dvs := [.bl false]) l30 c30 k30 e30 (.cons rfl .nil)) 4 0 (by simp) rfl (fun _ _ _ _ _ _ _ us its hl hi => match us, hl, its, hi with | [_, _, _, _], _, [_], _ => ⟨_, rfl, rfl⟩)⟩
      d_Circle_turn := ⟨⟨f31, _, fun_mk (st := s_Circle_turn) l31 c31 k31, (fun_mk (st := s_Circle_turn) l31 c31 k31).binds (ps := ["self"]) (fun _ _ _ _ _ _ us hl => match us, hl with | [_], _ => rfl)⟩, ⟨a31, i31, k31⟩⟩
      d_Circle_ended := ⟨⟨f32, _, fun_mk (st := s_Circle_ended) l32 c32 k32, (fun_mk (st := s_Circle_ended) l32 c32 k32).binds (ps := ["self"]) (fun _ _ _ _ _ _ us hl => match us, hl with | [_], _ => rfl)⟩, ⟨a32, i32, k32⟩⟩
      d_Circle_queue := ⟨⟨f33, _, fun_mk (st := s_Circle_queue) l33 c33 k33, (fun_mk (st := s_Circle_queue) l33 c33 k33).binds (ps := ["self"]) (fun _ _ _ _ _ _ us hl => match us, hl with | [_], _ => rfl)⟩, ⟨a33, i33, k33⟩⟩
      d_Circle_rests := ⟨⟨f34, _, fun_mk (st := s_Circle_rests) l34 c34 k34, (fun_mk (st := s_Circle_rests) l34 c34 k34).binds (ps := ["self"]) (fun _ _ _ _ _ _ us hl => match us, hl with | [_], _ => rfl)⟩, ⟨a34, i34, k34⟩⟩
      d_Circle_box := ⟨⟨f35, _, fun_mk (st := s_Circle_box) l35 c35 k35, (fun_mk (st := s_Circle_box) l35 c35 k35).binds (ps := ["self"]) (fun _ _ _ _ _ _ us hl => match us, hl with | [_], _ => rfl)⟩, ⟨a35, i35, k35⟩⟩
      d_Circle_pot := ⟨⟨f36, _, fun_mk (st := s_Circle_pot) l36 c36 k36, (fun_mk (st := s_Circle_pot) l36 c36 k36).binds (ps := ["self"]) (fun _ _ _ _ _ _ us hl => match us, hl with | [_], _ => rfl)⟩, ⟨a36, i36, k36⟩⟩
      d_Circle_seat := ⟨⟨f37, _, fun_mk (st := s_Circle_seat) l37 c37 k37, (fun_mk (st := s_Circle_seat) l37 c37 k37).binds (ps := ["self", "at"]) (fun _ _ _ _ _ _ us hl => match us, hl with | [_, _], _ => rfl)⟩, ⟨a37, i37, k37⟩⟩
      d_Circle_expected := ⟨⟨f38, _, fun_mk (st := s_Circle_expected) l38 c38 k38, (fun_mk (st := s_Circle_expected) l38 c38 k38).binds (ps := ["self", "at"]) (fun _ _ _ _ _ _ us hl => match us, hl with | [_, _], _ => rfl)⟩, ⟨a38, i38, k38⟩⟩
      d_Circle_close := ⟨⟨f39, _, fun_mk (st := s_Circle_close) l39 c39 k39, (fun_mk (st := s_Circle_close) l39 c39 k39).binds (ps := ["self", "paid", "bids"]) (fun _ _ _ _ _ _ us hl => match us, hl with | [_, _, _], _ => rfl)⟩, ⟨a39, i39, k39⟩⟩
      d_Circle_lay := ⟨⟨f40, _, fun_mk (st := s_Circle_lay) l40 c40 k40, (fun_mk (st := s_Circle_lay) l40 c40 k40).binds (ps := ["self", "at", "coins"]) (fun _ _ _ _ _ _ us hl => match us, hl with | [_, _, _], _ => rfl)⟩, ⟨a40, i40, k40⟩⟩
      d_Circle_swap := ⟨⟨f41, _, fun_mk (st := s_Circle_swap) l41 c41 k41, (fun_mk (st := s_Circle_swap) l41 c41 k41).binds (ps := ["self", "at", "other"]) (fun _ _ _ _ _ _ us hl => match us, hl with | [_, _, _], _ => rfl)⟩, ⟨a41, i41, k41⟩⟩
      d_Circle_refunds := ⟨⟨f42, _, fun_mk (st := s_Circle_refunds) l42 c42 k42, (fun_mk (st := s_Circle_refunds) l42 c42 k42).binds (ps := ["self"]) (fun _ _ _ _ _ _ us hl => match us, hl with | [_], _ => rfl)⟩, ⟨a42, i42, k42⟩⟩
      d_Circle_twin := ⟨⟨f43, _, fun_mk (st := s_Circle_twin) l43 c43 k43, (fun_mk (st := s_Circle_twin) l43 c43 k43).binds (ps := ["self"]) (fun _ _ _ _ _ _ us hl => match us, hl with | [_], _ => rfl)⟩, ⟨a43, i43, k43⟩⟩
      d_Circle_seat_at := ⟨⟨f44, _, fun_mk (st := s_Circle_seat_at) l44 c44 k44, (fun_mk (st := s_Circle_seat_at) l44 c44 k44).binds (ps := ["self", "at"]) (fun _ _ _ _ _ _ us hl => match us, hl with | [_, _], _ => rfl)⟩, ⟨a44, i44, k44⟩⟩
      d_Circle_seats_of := ⟨⟨f45, _, fun_mk (st := s_Circle_seats_of) l45 c45 k45, (fun_mk (st := s_Circle_seats_of) l45 c45 k45).binds (ps := ["self", "numbers"]) (fun _ _ _ _ _ _ us hl => match us, hl with | [_, _], _ => rfl)⟩, ⟨a45, i45, k45⟩⟩
      d_Circle_covers := ⟨⟨f46, _, fun_mk (st := s_Circle_covers) l46 c46 k46, (fun_mk (st := s_Circle_covers) l46 c46 k46).binds (ps := ["self", "at", "turn"]) (fun _ _ _ _ _ _ us hl => match us, hl with | [_, _, _], _ => rfl)⟩, ⟨a46, i46, k46⟩⟩
      d_Circle_standings := ⟨⟨f47, _, fun_mk (st := s_Circle_standings) l47 c47 k47, (fun_mk (st := s_Circle_standings) l47 c47 k47).binds (ps := ["self"]) (fun _ _ _ _ _ _ us hl => match us, hl with | [_], _ => rfl)⟩, ⟨a47, i47, k47⟩⟩
      d_Circle_unpaid := ⟨⟨f48, _, fun_mk (st := s_Circle_unpaid) l48 c48 k48, (fun_mk (st := s_Circle_unpaid) l48 c48 k48).binds (ps := ["self", "state", "paid"]) (fun _ _ _ _ _ _ us hl => match us, hl with | [_, _, _], _ => rfl)⟩, ⟨a48, i48, k48⟩⟩
      d_Circle_refuse_lists := ⟨⟨f49, _, fun_mk (st := s_Circle_refuse_lists) l49 c49 k49, (fun_mk (st := s_Circle_refuse_lists) l49 c49 k49).binds (ps := ["self", "paid", "bids"]) (fun _ _ _ _ _ _ us hl => match us, hl with | [_, _, _], _ => rfl)⟩, ⟨a49, i49, k49⟩⟩
      d_Circle_let_fall := ⟨⟨f50, _, fun_mk (st := s_Circle_let_fall) l50 c50 k50, (fun_mk (st := s_Circle_let_fall) l50 c50 k50).binds (ps := ["self", "fallen"]) (fun _ _ _ _ _ _ us hl => match us, hl with | [_, _], _ => rfl)⟩, ⟨a50, i50, k50⟩⟩
      d_Circle_leave_queue := ⟨⟨f51, _, fun_mk (st := s_Circle_leave_queue) l51 c51 k51, (fun_mk (st := s_Circle_leave_queue) l51 c51 k51).binds (ps := ["self", "at", "state"]) (fun _ _ _ _ _ _ us hl => match us, hl with | [_, _, _], _ => rfl)⟩, ⟨a51, i51, k51⟩⟩
      d_Circle_charge_pledges := ⟨⟨f52, _, fun_mk (st := s_Circle_charge_pledges) l52 c52 k52, (fun_mk (st := s_Circle_charge_pledges) l52 c52 k52).binds (ps := ["self", "pledged"]) (fun _ _ _ _ _ _ us hl => match us, hl with | [_, _], _ => rfl)⟩, ⟨a52, i52, k52⟩⟩
      d_Circle_collect := ⟨⟨f53, _, fun_mk (st := s_Circle_collect) l53 c53 k53, (fun_mk (st := s_Circle_collect) l53 c53 k53).binds (ps := ["self"]) (fun _ _ _ _ _ _ us hl => match us, hl with | [_], _ => rfl)⟩, ⟨a53, i53, k53⟩⟩
      d_Circle_rest := ⟨⟨f54, _, fun_mk (st := s_Circle_rest) l54 c54 k54, (fun_mk (st := s_Circle_rest) l54 c54 k54).binds (ps := ["self", "payers"]) (fun _ _ _ _ _ _ us hl => match us, hl with | [_, _], _ => rfl)⟩, ⟨a54, i54, k54⟩⟩
      d_Circle_draw := ⟨⟨f55, _, fun_mk (st := s_Circle_draw) l55 c55 k55, (fun_mk (st := s_Circle_draw) l55 c55 k55).binds (ps := ["self", "payers", "bids"]) (fun _ _ _ _ _ _ us hl => match us, hl with | [_, _, _], _ => rfl)⟩, ⟨a55, i55, k55⟩⟩
      d_Circle_best_bid := ⟨⟨f56, _, fun_mk (st := s_Circle_best_bid) l56 c56 k56, (fun_mk (st := s_Circle_best_bid) l56 c56 k56).binds (ps := ["self", "bids"]) (fun _ _ _ _ _ _ us hl => match us, hl with | [_, _], _ => rfl)⟩, ⟨a56, i56, k56⟩⟩
      d_refuse_opening := ⟨f57, _, fun_mk (st := s_refuse_opening) l57 c57 k57, (fun_mk (st := s_refuse_opening) l57 c57 k57).binds (ps := ["stake", "pledges", "wishes"]) (fun _ _ _ _ _ _ us hl => match us, hl with | [_, _, _], _ => rfl)⟩
      m_refuse_opening := PySem.W.mg_of X G a57
      d_first_queue := ⟨f58, _, fun_mk (st := s_first_queue) l58 c58 k58, (fun_mk (st := s_first_queue) l58 c58 k58).binds (ps := ["stake", "pledges", "wishes"]) (fun _ _ _ _ _ _ us hl => match us, hl with | [_, _, _], _ => rfl)⟩
      m_first_queue := PySem.W.mg_of X G a58
      d_is_name := ⟨f59, _, fun_mk (st := s_is_name) l59 c59 k59, (fun_mk (st := s_is_name) l59 c59 k59).binds (ps := ["text"]) (fun _ _ _ _ _ _ us hl => match us, hl with | [_], _ => rfl)⟩
      m_is_name := PySem.W.mg_of X G a59
      d_Table___init__ := ⟨f60, _, fun_mk (st := s_Table___init__) l60 c60 k60, (fun_mk (st := s_Table___init__) l60 c60 k60).binds (ps := ["self", "sitters", "circle", "payments", "offers", "closed"]) (fun _ _ _ _ _ _ us hl => match us, hl with | [_, _, _, _, _, _], _ => rfl)⟩
      d_Table_seat_of := ⟨⟨f61, _, fun_mk (st := s_Table_seat_of) l61 c61 k61, (fun_mk (st := s_Table_seat_of) l61 c61 k61).binds (ps := ["self", "name"]) (fun _ _ _ _ _ _ us hl => match us, hl with | [_, _], _ => rfl)⟩, ⟨a61, i61, k61⟩⟩
      d_Table_state_of := ⟨⟨f62, _, fun_mk (st := s_Table_state_of) l62 c62 k62, (fun_mk (st := s_Table_state_of) l62 c62 k62).binds (ps := ["self", "at"]) (fun _ _ _ _ _ _ us hl => match us, hl with | [_, _], _ => rfl)⟩, ⟨a62, i62, k62⟩⟩
      d_Table_with_payment := ⟨⟨f63, _, fun_mk (st := s_Table_with_payment) l63 c63 k63, (fun_mk (st := s_Table_with_payment) l63 c63 k63).binds (ps := ["self", "at"]) (fun _ _ _ _ _ _ us hl => match us, hl with | [_, _], _ => rfl)⟩, ⟨a63, i63, k63⟩⟩
      d_Table_with_offer := ⟨⟨f64, _, fun_mk (st := s_Table_with_offer) l64 c64 k64, (fun_mk (st := s_Table_with_offer) l64 c64 k64).binds (ps := ["self", "at", "coins"]) (fun _ _ _ _ _ _ us hl => match us, hl with | [_, _, _], _ => rfl)⟩, ⟨a64, i64, k64⟩⟩
      d_Table_with_circle := ⟨⟨f65, _, fun_mk (st := s_Table_with_circle) l65 c65 k65, (fun_mk (st := s_Table_with_circle) l65 c65 k65).binds (ps := ["self", "circle"]) (fun _ _ _ _ _ _ us hl => match us, hl with | [_, _], _ => rfl)⟩, ⟨a65, i65, k65⟩⟩
      d_Table_behind_round := ⟨⟨f66, _, fun_mk (st := s_Table_behind_round) l66 c66 k66, (fun_mk (st := s_Table_behind_round) l66 c66 k66).binds (ps := ["self", "circle", "report"]) (fun _ _ _ _ _ _ us hl => match us, hl with | [_, _, _], _ => rfl)⟩, ⟨a66, i66, k66⟩⟩
      d_Table_told_reports := ⟨⟨f67, _, fun_mk (st := s_Table_told_reports) l67 c67 k67, (fun_mk (st := s_Table_told_reports) l67 c67 k67).binds (ps := ["self"]) (fun _ _ _ _ _ _ us hl => match us, hl with | [_], _ => rfl)⟩, ⟨a67, i67, k67⟩⟩
      d_Table_holdings := ⟨⟨f68, _, fun_mk (st := s_Table_holdings) l68 c68 k68, (fun_mk (st := s_Table_holdings) l68 c68 k68).binds (ps := ["self"]) (fun _ _ _ _ _ _ us hl => match us, hl with | [_], _ => rfl)⟩, ⟨a68, i68, k68⟩⟩
      d_Table_payouts := ⟨⟨f69, _, fun_mk (st := s_Table_payouts) l69 c69 k69, (fun_mk (st := s_Table_payouts) l69 c69 k69).binds (ps := ["self"]) (fun _ _ _ _ _ _ us hl => match us, hl with | [_], _ => rfl)⟩, ⟨a69, i69, k69⟩⟩
      d_opened_table := ⟨f70, _, fun_mk (st := s_opened_table) l70 c70 k70, (fun_mk (st := s_opened_table) l70 c70 k70).binds (ps := ["sitters", "circle", "closed"]) (fun _ _ _ _ _ _ us hl => match us, hl with | [_, _, _], _ => rfl)⟩
      m_opened_table := PySem.W.mg_of X G a70
      d_report_copy := ⟨f71, _, fun_mk (st := s_report_copy) l71 c71 k71, (fun_mk (st := s_report_copy) l71 c71 k71).binds (ps := ["report"]) (fun _ _ _ _ _ _ us hl => match us, hl with | [_], _ => rfl)⟩
      m_report_copy := PySem.W.mg_of X G a71
      d_enter := ⟨f72, _, fun_mk (st := s_enter) l72 c72 k72, (fun_mk (st := s_enter) l72 c72 k72).binds (ps := ["books", "name"]) (fun _ _ _ _ _ _ us hl => match us, hl with | [_, _], _ => rfl)⟩
      m_enter := PySem.W.mg_of X G a72
      d_part := ⟨f73, _, fun_mk (st := s_part) l73 c73 k73, (fun_mk (st := s_part) l73 c73 k73).binds (ps := ["books", "name"]) (fun _ _ _ _ _ _ us hl => match us, hl with | [_, _], _ => rfl)⟩
      m_part := PySem.W.mg_of X G a73
      d_bring := ⟨f74, _, fun_mk (st := s_bring) l74 c74 k74, (fun_mk (st := s_bring) l74 c74 k74).binds (ps := ["books", "name", "coins"]) (fun _ _ _ _ _ _ us hl => match us, hl with | [_, _, _], _ => rfl)⟩
      m_bring := PySem.W.mg_of X G a74
      d_take := ⟨f75, _, fun_mk (st := s_take) l75 c75 k75, (fun_mk (st := s_take) l75 c75 k75).binds (ps := ["books", "name", "coins"]) (fun _ _ _ _ _ _ us hl => match us, hl with | [_, _, _], _ => rfl)⟩
      m_take := PySem.W.mg_of X G a75
      d_found := ⟨f76, _, fun_mk (st := s_found) l76 c76 k76, (fun_mk (st := s_found) l76 c76 k76).binds (ps := ["books", "circle", "stake", "bidding", "seats"]) (fun _ _ _ _ _ _ us hl => match us, hl with | [_, _, _, _, _], _ => rfl)⟩
      m_found := PySem.W.mg_of X G a76
      d_pay := ⟨f77, _, fun_mk (st := s_pay) l77 c77 k77, (fun_mk (st := s_pay) l77 c77 k77).binds (ps := ["books", "circle", "name"]) (fun _ _ _ _ _ _ us hl => match us, hl with | [_, _, _], _ => rfl)⟩
      m_pay := PySem.W.mg_of X G a77
      d_bid := ⟨f78, _, fun_mk (st := s_bid) l78 c78 k78, (fun_mk (st := s_bid) l78 c78 k78).binds (ps := ["books", "circle", "name", "coins"]) (fun _ _ _ _ _ _ us hl => match us, hl with | [_, _, _, _], _ => rfl)⟩
      m_bid := PySem.W.mg_of X G a78
      d_lay := ⟨f79, _, fun_mk (st := s_lay) l79 c79 k79, (fun_mk (st := s_lay) l79 c79 k79).binds (ps := ["books", "circle", "name", "coins"]) (fun _ _ _ _ _ _ us hl => match us, hl with | [_, _, _, _], _ => rfl)⟩
      m_lay := PySem.W.mg_of X G a79
      d_swap := ⟨f80, _, fun_mk (st := s_swap) l80 c80 k80, (fun_mk (st := s_swap) l80 c80 k80).binds (ps := ["books", "circle", "name", "other"]) (fun _ _ _ _ _ _ us hl => match us, hl with | [_, _, _, _], _ => rfl)⟩
      m_swap := PySem.W.mg_of X G a80
      d_close := ⟨f81, _, fun_mk (st := s_close) l81 c81 k81, (fun_mk (st := s_close) l81 c81 k81).binds (ps := ["books", "circle"]) (fun _ _ _ _ _ _ us hl => match us, hl with | [_, _], _ => rfl)⟩
      m_close := PySem.W.mg_of X G a81
      d_refuse_ended := ⟨f82, _, fun_mk (st := s_refuse_ended) l82 c82 k82, (fun_mk (st := s_refuse_ended) l82 c82 k82).binds (ps := ["table"]) (fun _ _ _ _ _ _ us hl => match us, hl with | [_], _ => rfl)⟩
      m_refuse_ended := PySem.W.mg_of X G a82
      d_refuse_beyond := ⟨f83, _, fun_mk (st := s_refuse_beyond) l83 c83 k83, (fun_mk (st := s_refuse_beyond) l83 c83 k83).binds (ps := ["coins", "least", "most"]) (fun _ _ _ _ _ _ us hl => match us, hl with | [_, _, _], _ => rfl)⟩
      m_refuse_beyond := PySem.W.mg_of X G a83
      d_done := ⟨f84, _, fun_mk (st := s_done) l84 c84 k84, (fun_mk (st := s_done) l84 c84 k84).binds (ps := ["books", "row"]) (fun _ _ _ _ _ _ us hl => match us, hl with | [_, _], _ => rfl)⟩
      m_done := PySem.W.mg_of X G a84
      d_House___init__ := ⟨f85, _, fun_mk (st := s_House___init__) l85 c85 k85, (fun_mk (st := s_House___init__) l85 c85 k85).binds (ps := ["self"]) (fun _ _ _ _ _ _ us hl => match us, hl with | [_], _ => rfl)⟩
      d_House_enter := ⟨⟨f86, _, fun_mk (st := s_House_enter) l86 c86 k86, (fun_mk (st := s_House_enter) l86 c86 k86).binds (ps := ["self", "name"]) (fun _ _ _ _ _ _ us hl => match us, hl with | [_, _], _ => rfl)⟩, ⟨a86, i86, k86⟩⟩
      d_House_part := ⟨⟨f87, _, fun_mk (st := s_House_part) l87 c87 k87, (fun_mk (st := s_House_part) l87 c87 k87).binds (ps := ["self", "name"]) (fun _ _ _ _ _ _ us hl => match us, hl with | [_, _], _ => rfl)⟩, ⟨a87, i87, k87⟩⟩
      d_House_bring := ⟨⟨f88, _, fun_mk (st := s_House_bring) l88 c88 k88, (fun_mk (st := s_House_bring) l88 c88 k88).binds (ps := ["self", "name", "coins"]) (fun _ _ _ _ _ _ us hl => match us, hl with | [_, _, _], _ => rfl)⟩, ⟨a88, i88, k88⟩⟩
      d_House_take := ⟨⟨f89, _, fun_mk (st := s_House_take) l89 c89 k89, (fun_mk (st := s_House_take) l89 c89 k89).binds (ps := ["self", "name", "coins"]) (fun _ _ _ _ _ _ us hl => match us, hl with | [_, _, _], _ => rfl)⟩, ⟨a89, i89, k89⟩⟩
      d_House_found := ⟨⟨f90, _, fun_mk (st := s_House_found) l90 c90 k90, (fun_mk (st := s_House_found) l90 c90 k90).binds (ps := ["self", "circle", "stake", "bidding", "seats"]) (fun _ _ _ _ _ _ us hl => match us, hl with | [_, _, _, _, _], _ => rfl)⟩, ⟨a90, i90, k90⟩⟩
      d_House_pay := ⟨⟨f91, _, fun_mk (st := s_House_pay) l91 c91 k91, (fun_mk (st := s_House_pay) l91 c91 k91).binds (ps := ["self", "circle", "name"]) (fun _ _ _ _ _ _ us hl => match us, hl with | [_, _, _], _ => rfl)⟩, ⟨a91, i91, k91⟩⟩
      d_House_bid := ⟨⟨f92, _, fun_mk (st := s_House_bid) l92 c92 k92, (fun_mk (st := s_House_bid) l92 c92 k92).binds (ps := ["self", "circle", "name", "coins"]) (fun _ _ _ _ _ _ us hl => match us, hl with | [_, _, _, _], _ => rfl)⟩, ⟨a92, i92, k92⟩⟩
      d_House_lay := ⟨⟨f93, _, fun_mk (st := s_House_lay) l93 c93 k93, (fun_mk (st := s_House_lay) l93 c93 k93).binds (ps := ["self", "circle", "name", "coins"]) (fun _ _ _ _ _ _ us hl => match us, hl with | [_, _, _, _], _ => rfl)⟩, ⟨a93, i93, k93⟩⟩
      d_House_swap := ⟨⟨f94, _, fun_mk (st := s_House_swap) l94 c94 k94, (fun_mk (st := s_House_swap) l94 c94 k94).binds (ps := ["self", "circle", "name", "other"]) (fun _ _ _ _ _ _ us hl => match us, hl with | [_, _, _, _], _ => rfl)⟩, ⟨a94, i94, k94⟩⟩
      d_House_close := ⟨⟨f95, _, fun_mk (st := s_House_close) l95 c95 k95, (fun_mk (st := s_House_close) l95 c95 k95).binds (ps := ["self", "circle"]) (fun _ _ _ _ _ _ us hl => match us, hl with | [_, _], _ => rfl)⟩, ⟨a95, i95, k95⟩⟩
      d_House_deed := ⟨⟨f96, _, fun_mk (st := s_House_deed) l96 c96 k96, (fun_mk (st := s_House_deed) l96 c96 k96).binds (ps := ["self", "row"]) (fun _ _ _ _ _ _ us hl => match us, hl with | [_, _], _ => rfl)⟩, ⟨a96, i96, k96⟩⟩
      d_House_back := ⟨⟨f97, _, fun_mk (st := s_House_back) l97 c97 k97, (fun_mk (st := s_House_back) l97 c97 k97).binds (ps := ["self"]) (fun _ _ _ _ _ _ us hl => match us, hl with | [_], _ => rfl)⟩, ⟨a97, i97, k97⟩⟩
      d_House_again := ⟨⟨f98, _, fun_mk (st := s_House_again) l98 c98 k98, (fun_mk (st := s_House_again) l98 c98 k98).binds (ps := ["self"]) (fun _ _ _ _ _ _ us hl => match us, hl with | [_], _ => rfl)⟩, ⟨a98, i98, k98⟩⟩
      d_House_members := ⟨⟨f99, _, fun_mk (st := s_House_members) l99 c99 k99, (fun_mk (st := s_House_members) l99 c99 k99).binds (ps := ["self"]) (fun _ _ _ _ _ _ us hl => match us, hl with | [_], _ => rfl)⟩, ⟨a99, i99, k99⟩⟩
      d_House_purse := ⟨⟨f100, _, fun_mk (st := s_House_purse) l100 c100 k100, (fun_mk (st := s_House_purse) l100 c100 k100).binds (ps := ["self", "name"]) (fun _ _ _ _ _ _ us hl => match us, hl with | [_, _], _ => rfl)⟩, ⟨a100, i100, k100⟩⟩
      d_House_circles := ⟨⟨f101, _, fun_mk (st := s_House_circles) l101 c101 k101, (fun_mk (st := s_House_circles) l101 c101 k101).binds (ps := ["self"]) (fun _ _ _ _ _ _ us hl => match us, hl with | [_], _ => rfl)⟩, ⟨a101, i101, k101⟩⟩
      d_House_names := ⟨⟨f102, _, fun_mk (st := s_House_names) l102 c102 k102, (fun_mk (st := s_House_names) l102 c102 k102).binds (ps := ["self", "circle"]) (fun _ _ _ _ _ _ us hl => match us, hl with | [_, _], _ => rfl)⟩, ⟨a102, i102, k102⟩⟩
      d_House_turn := ⟨⟨f103, _, fun_mk (st := s_House_turn) l103 c103 k103, (fun_mk (st := s_House_turn) l103 c103 k103).binds (ps := ["self", "circle"]) (fun _ _ _ _ _ _ us hl => match us, hl with | [_, _], _ => rfl)⟩, ⟨a103, i103, k103⟩⟩
      d_House_rests := ⟨⟨f104, _, fun_mk (st := s_House_rests) l104 c104 k104, (fun_mk (st := s_House_rests) l104 c104 k104).binds (ps := ["self", "circle"]) (fun _ _ _ _ _ _ us hl => match us, hl with | [_, _], _ => rfl)⟩, ⟨a104, i104, k104⟩⟩
      d_House_queue := ⟨⟨f105, _, fun_mk (st := s_House_queue) l105 c105 k105, (fun_mk (st := s_House_queue) l105 c105 k105).binds (ps := ["self", "circle"]) (fun _ _ _ _ _ _ us hl => match us, hl with | [_, _], _ => rfl)⟩, ⟨a105, i105, k105⟩⟩
      d_House_paid := ⟨⟨f106, _, fun_mk (st := s_House_paid) l106 c106 k106, (fun_mk (st := s_House_paid) l106 c106 k106).binds (ps := ["self", "circle"]) (fun _ _ _ _ _ _ us hl => match us, hl with | [_, _], _ => rfl)⟩, ⟨a106, i106, k106⟩⟩
      d_House_bids := ⟨⟨f107, _, fun_mk (st := s_House_bids) l107 c107 k107, (fun_mk (st := s_House_bids) l107 c107 k107).binds (ps := ["self", "circle"]) (fun _ _ _ _ _ _ us hl => match us, hl with | [_, _], _ => rfl)⟩, ⟨a107, i107, k107⟩⟩
      d_House_reports := ⟨⟨f108, _, fun_mk (st := s_House_reports) l108 c108 k108, (fun_mk (st := s_House_reports) l108 c108 k108).binds (ps := ["self", "circle"]) (fun _ _ _ _ _ _ us hl => match us, hl with | [_, _], _ => rfl)⟩, ⟨a108, i108, k108⟩⟩
      d_House_held := ⟨⟨f109, _, fun_mk (st := s_House_held) l109 c109 k109, (fun_mk (st := s_House_held) l109 c109 k109).binds (ps := ["self", "circle"]) (fun _ _ _ _ _ _ us hl => match us, hl with | [_, _], _ => rfl)⟩, ⟨a109, i109, k109⟩⟩
      d_House_seat := ⟨⟨f110, _, fun_mk (st := s_House_seat) l110 c110 k110, (fun_mk (st := s_House_seat) l110 c110 k110).binds (ps := ["self", "circle", "name"]) (fun _ _ _ _ _ _ us hl => match us, hl with | [_, _, _], _ => rfl)⟩, ⟨a110, i110, k110⟩⟩
      d_House_coins := ⟨⟨f111, _, fun_mk (st := s_House_coins) l111 c111 k111, (fun_mk (st := s_House_coins) l111 c111 k111).binds (ps := ["self"]) (fun _ _ _ _ _ _ us hl => match us, hl with | [_], _ => rfl)⟩, ⟨a111, i111, k111⟩⟩
      d_House_twin := ⟨⟨f112, _, fun_mk (st := s_House_twin) l112 c112 k112, (fun_mk (st := s_House_twin) l112 c112 k112).binds (ps := ["self"]) (fun _ _ _ _ _ _ us hl => match us, hl with | [_], _ => rfl)⟩, ⟨a112, i112, k112⟩⟩
      d_House_keep_done := ⟨⟨f113, _, fun_mk (st := s_House_keep_done) l113 c113 k113, (fun_mk (st := s_House_keep_done) l113 c113 k113).binds (ps := ["self", "row"]) (fun _ _ _ _ _ _ us hl => match us, hl with | [_, _], _ => rfl)⟩, ⟨a113, i113, k113⟩⟩
      d__law_draws := ⟨f114, _, fun_mk (st := s__law_draws) l114 c114 k114, (fun_mk (st := s__law_draws) l114 c114 k114).binds (ps := ["_law_script", "_law_many"]) (fun _ _ _ _ _ _ us hl => match us, hl with | [_, _], _ => rfl)⟩
      m__law_draws := PySem.W.mg_of X G a114
      d__law_same := ⟨f115, _, fun_mk (st := s__law_same) l115 c115 k115, (fun_mk (st := s__law_same) l115 c115 k115).binds (ps := ["_law_told", "_law_due_here"]) (fun _ _ _ _ _ _ us hl => match us, hl with | [_, _], _ => rfl)⟩
      m__law_same := PySem.W.mg_of X G a115
      d__law_names := ⟨f116, _, fun_mk (st := s__law_names) l116 c116 k116, (fun_mk (st := s__law_names) l116 c116 k116).binds (ps := ["_law_some", "_law_many"]) (fun _ _ _ _ _ _ us hl => match us, hl with | [_, _], _ => rfl)⟩
      m__law_names := PySem.W.mg_of X G a116
      d__law_is_name := ⟨f117, _, fun_mk (st := s__law_is_name) l117 c117 k117, (fun_mk (st := s__law_is_name) l117 c117 k117).binds (ps := ["_law_word"]) (fun _ _ _ _ _ _ us hl => match us, hl with | [_], _ => rfl)⟩
      m__law_is_name := PySem.W.mg_of X G a117
      d__law_member_deed := ⟨f118, _, fun_mk (st := s__law_member_deed) l118 c118 k118, (fun_mk (st := s__law_member_deed) l118 c118 k118).binds (ps := ["_law_book", "_law_row"]) (fun _ _ _ _ _ _ us hl => match us, hl with | [_, _], _ => rfl)⟩
      m__law_member_deed := PySem.W.mg_of X G a118
      d__law_table_due := ⟨f119, _, fun_mk (st := s__law_table_due) l119 c119 k119, (fun_mk (st := s__law_table_due) l119 c119 k119).binds (ps := ["_law_table"]) (fun _ _ _ _ _ _ us hl => match us, hl with | [_], _ => rfl)⟩
      m__law_table_due := PySem.W.mg_of X G a119
      d__law_due := ⟨f120, _, fun_mk (st := s__law_due) l120 c120 k120, (fun_mk (st := s__law_due) l120 c120 k120).binds (ps := ["_law_book"]) (fun _ _ _ _ _ _ us hl => match us, hl with | [_], _ => rfl)⟩
      m__law_due := PySem.W.mg_of X G a120
      d__law_named := ⟨f121, _, fun_mk (st := s__law_named) l121 c121 k121, (fun_mk (st := s__law_named) l121 c121 k121).binds (ps := ["_law_people", "_law_raw"]) (fun _ _ _ _ _ _ us hl => match us, hl with | [_, _], _ => rfl)⟩
      m__law_named := PySem.W.mg_of X G a121
      d__law_done := ⟨f122, _, fun_mk (st := s__law_done) l122 c122 k122, (fun_mk (st := s__law_done) l122 c122 k122).binds (ps := ["_law_house", "_law_row"]) (fun _ _ _ _ _ _ us hl => match us, hl with | [_, _], _ => rfl)⟩
      m__law_done := PySem.W.mg_of X G a122
      d__law_marks := ⟨f123, _, fun_mk (st := s__law_marks) l123 c123 k123, (fun_mk (st := s__law_marks) l123 c123 k123).binds (ps := ["_law_word"]) (fun _ _ _ _ _ _ us hl => match us, hl with | [_], _ => rfl)⟩
      m__law_marks := PySem.W.mg_of X G a123
      d__law_table_seen := ⟨f124, _, fun_mk (st := s__law_table_seen) l124 c124 k124, (fun_mk (st := s__law_table_seen) l124 c124 k124).binds (ps := ["_law_house", "_law_circle"]) (fun _ _ _ _ _ _ us hl => match us, hl with | [_, _], _ => rfl)⟩
      m__law_table_seen := PySem.W.mg_of X G a124
      d__law_seen := ⟨f125, _, fun_mk (st := s__law_seen) l125 c125 k125, (fun_mk (st := s__law_seen) l125 c125 k125).binds (ps := ["_law_house"]) (fun _ _ _ _ _ _ us hl => match us, hl with | [_], _ => rfl)⟩
      m__law_seen := PySem.W.mg_of X G a125
      d__law_missing := ⟨f126, _, fun_mk (st := s__law_missing) l126 c126 k126, (fun_mk (st := s__law_missing) l126 c126 k126).binds (ps := ["_law_house", "_law_name"]) (fun _ _ _ _ _ _ us hl => match us, hl with | [_, _], _ => rfl)⟩
      m__law_missing := PySem.W.mg_of X G a126
      d_law := ⟨f127, _, fun_mk (st := s_law) l127 c127 k127, (fun_mk (st := s_law) l127 c127 k127).binds (ps := ["_law_script"]) (fun _ _ _ _ _ _ us hl => match us, hl with | [_], _ => rfl)⟩
      m_law := PySem.W.mg_of X G a127
      f_Books := gc_Books
      m_Books := PySem.W.mg_of X G g_Books
      cl_Books := ⟨pg_Books, hd_Books, po_Books, sa_Books⟩
      mk_Books := ⟨mi_Books, a1, i1, kc_Books⟩
      na_Books := (List.forall_mem_cons.mpr ⟨na_Books_shelves, (List.forall_mem_cons.mpr ⟨na_Books_trail, (fun _ h => nomatch h)⟩)⟩)
      f_Seat := gc_Seat
      m_Seat := PySem.W.mg_of X G g_Seat
      cl_Seat := ⟨pg_Seat, hd_Seat, po_Seat, sa_Seat⟩
      mk_Seat := ⟨mi_Seat, a28, i28, kc_Seat⟩
      na_Seat := (List.forall_mem_cons.mpr ⟨na_Seat_state, (List.forall_mem_cons.mpr ⟨na_Seat_since, (List.forall_mem_cons.mpr ⟨na_Seat_pledge, (List.forall_mem_cons.mpr ⟨na_Seat_given, (List.forall_mem_cons.mpr ⟨na_Seat_drawn, (List.forall_mem_cons.mpr ⟨na_Seat_shared, (List.forall_mem_cons.mpr ⟨na_Seat_pledge_stakes, (fun _ h => nomatch h)⟩)⟩)⟩)⟩)⟩)⟩)⟩)
      f_Circle := gc_Circle
      m_Circle := PySem.W.mg_of X G g_Circle
      cl_Circle := ⟨pg_Circle, hd_Circle, po_Circle, sa_Circle⟩
      mk_Circle := ⟨mi_Circle, a30, i30, kc_Circle⟩
      na_Circle := (List.forall_mem_cons.mpr ⟨na_Circle_line, (List.forall_mem_cons.mpr ⟨na_Circle_stake, (List.forall_mem_cons.mpr ⟨na_Circle_first_pledges, (List.forall_mem_cons.mpr ⟨na_Circle_wishes, (List.forall_mem_cons.mpr ⟨na_Circle_bidding, (List.forall_mem_cons.mpr ⟨na_Circle_seats, (List.forall_mem_cons.mpr ⟨na_Circle_open_round, (List.forall_mem_cons.mpr ⟨na_Circle_rests_due, (List.forall_mem_cons.mpr ⟨na_Circle_chest, (List.forall_mem_cons.mpr ⟨na_Circle_flows, (fun _ h => nomatch h)⟩)⟩)⟩)⟩)⟩)⟩)⟩)⟩)⟩)⟩)
      f_Table := gc_Table
      m_Table := PySem.W.mg_of X G g_Table
      cl_Table := ⟨pg_Table, hd_Table, po_Table, sa_Table⟩
      mk_Table := ⟨mi_Table, a60, i60, kc_Table⟩
      na_Table := (List.forall_mem_cons.mpr ⟨na_Table_sitters, (List.forall_mem_cons.mpr ⟨na_Table_circle, (List.forall_mem_cons.mpr ⟨na_Table_payments, (List.forall_mem_cons.mpr ⟨na_Table_offers, (List.forall_mem_cons.mpr ⟨na_Table_closed, (fun _ h => nomatch h)⟩)⟩)⟩)⟩)⟩)
      f_House := gc_House
      m_House := PySem.W.mg_of X G g_House
      cl_House := ⟨pg_House, hd_House, po_House, sa_House⟩
      mk_House := ⟨mi_House, a85, i85, kc_House⟩
      na_House := (List.forall_mem_cons.mpr ⟨na_House_books, (List.forall_mem_cons.mpr ⟨na_House_kept, (List.forall_mem_cons.mpr ⟨na_House_undone, (fun _ h => nomatch h)⟩)⟩)⟩)
      m_abs := PySem.W.mg_none_of X G z0
      m_all := PySem.W.mg_none_of X G z1
      m_any := PySem.W.mg_none_of X G z2
      m_bool := PySem.W.mg_none_of X G z3
      m_dict := PySem.W.mg_none_of X G z4
      m_enumerate := PySem.W.mg_none_of X G z5
      m_int := PySem.W.mg_none_of X G z6
      m_isinstance := PySem.W.mg_none_of X G z7
      m_len := PySem.W.mg_none_of X G z8
      m_list := PySem.W.mg_none_of X G z9
      m_max := PySem.W.mg_none_of X G z10
      m_min := PySem.W.mg_none_of X G z11
      m_range := PySem.W.mg_none_of X G z12
      m_set := PySem.W.mg_none_of X G z13
      m_sorted := PySem.W.mg_none_of X G z14
      m_str := PySem.W.mg_none_of X G z15
      m_sum := PySem.W.mg_none_of X G z16
      m_tuple := PySem.W.mg_none_of X G z17
      m_zip := PySem.W.mg_none_of X G z18
      t_MEMBERS := tk0
      m_MEMBERS := PySem.W.mg_of X G n0
      t_TABLES := tk1
      m_TABLES := PySem.W.mg_of X G n1
      t_SUMS := tk2
      m_SUMS := PySem.W.mg_of X G n2
      t_BROUGHT := tk3
      m_BROUGHT := PySem.W.mg_of X G n3
      t_MOST_STAKE := tk4
      m_MOST_STAKE := PySem.W.mg_of X G n4
      t_LEAST_SEATS := tk5
      m_LEAST_SEATS := PySem.W.mg_of X G n5
      t_MOST_SEATS := tk6
      m_MOST_SEATS := PySem.W.mg_of X G n6
      t_MOST_COINS := tk7
      m_MOST_COINS := PySem.W.mg_of X G n7
      t_WAITS := tk8
      m_WAITS := PySem.W.mg_of X G n8
      t_DREW := tk9
      m_DREW := PySem.W.mg_of X G n9
      t_FELL := tk10
      m_FELL := PySem.W.mg_of X G n10
      t_LETTERS := tk11
      m_LETTERS := PySem.W.mg_of X G n11
      t_LONGEST_NAME := tk12
      m_LONGEST_NAME := PySem.W.mg_of X G n12
      c_Books_member_names := 326
      P_Books_member_names := 322
      C_Books_member_names := func_mk (st := s_Books_member_names) l9 c9 cc0
      f_SusuError := fc0
      m_SusuError := PySem.W.mg_of X G x1
      f_BadName := fc2
      m_BadName := PySem.W.mg_of X G x3
      f_BadNumber := fc4
      m_BadNumber := PySem.W.mg_of X G x5
      f_Known := fc6
      m_Known := PySem.W.mg_of X G x7
      f_Unknown := fc8
      m_Unknown := PySem.W.mg_of X G x9
      f_Twice := fc10
      m_Twice := PySem.W.mg_of X G x11
      f_Seated := fc12
      m_Seated := PySem.W.mg_of X G x13
      f_Holding := fc14
      m_Holding := PySem.W.mg_of X G x15
      f_Short := fc16
      m_Short := PySem.W.mg_of X G x17
      f_NoSeat := fc18
      m_NoSeat := PySem.W.mg_of X G x19
      f_Ended := fc20
      m_Ended := PySem.W.mg_of X G x21
      f_Fell := fc22
      m_Fell := PySem.W.mg_of X G x23
      f_Paid := fc24
      m_Paid := PySem.W.mg_of X G x25
      f_NoBids := fc26
      m_NoBids := PySem.W.mg_of X G x27
      f_NotWaiting := fc28
      m_NotWaiting := PySem.W.mg_of X G x29
      f_Uncovered := fc30
      m_Uncovered := PySem.W.mg_of X G x31
      f_NoOrder := fc32
      m_NoOrder := PySem.W.mg_of X G x33
      x_BadName := x34
      kp_BadName := x35
      e_BadName := ⟨x36_0, x36_1, x36_2, x36_3, x36_4, x36_5, x36_6, x36_7⟩
      su_BadName_SusuError := x37
      su_BadName_Unknown := x38
      ki_BadName_BadName := x39
      ki_BadName_BadNumber := x40
      ki_BadName_Known := x41
      ki_BadName_Unknown := x42
      ki_BadName_Twice := x43
      ki_BadName_Seated := x44
      ki_BadName_Holding := x45
      ki_BadName_Short := x46
      ki_BadName_NoSeat := x47
      ki_BadName_Ended := x48
      ki_BadName_Fell := x49
      ki_BadName_Paid := x50
      ki_BadName_NoBids := x51
      ki_BadName_NotWaiting := x52
      ki_BadName_Uncovered := x53
      ki_BadName_NoOrder := x54
      x_BadNumber := x55
      kp_BadNumber := x56
      e_BadNumber := ⟨x57_0, x57_1, x57_2, x57_3, x57_4, x57_5, x57_6, x57_7⟩
      su_BadNumber_SusuError := x58
      su_BadNumber_Unknown := x59
      ki_BadNumber_BadName := x60
      ki_BadNumber_BadNumber := x61
      ki_BadNumber_Known := x62
      ki_BadNumber_Unknown := x63
      ki_BadNumber_Twice := x64
      ki_BadNumber_Seated := x65
      ki_BadNumber_Holding := x66
      ki_BadNumber_Short := x67
      ki_BadNumber_NoSeat := x68
      ki_BadNumber_Ended := x69
      ki_BadNumber_Fell := x70
      ki_BadNumber_Paid := x71
      ki_BadNumber_NoBids := x72
      ki_BadNumber_NotWaiting := x73
      ki_BadNumber_Uncovered := x74
      ki_BadNumber_NoOrder := x75
      x_Known := x76
      kp_Known := x77
      e_Known := ⟨x78_0, x78_1, x78_2, x78_3, x78_4, x78_5, x78_6, x78_7⟩
      su_Known_SusuError := x79
      su_Known_Unknown := x80
      ki_Known_BadName := x81
      ki_Known_BadNumber := x82
      ki_Known_Known := x83
      ki_Known_Unknown := x84
      ki_Known_Twice := x85
      ki_Known_Seated := x86
      ki_Known_Holding := x87
      ki_Known_Short := x88
      ki_Known_NoSeat := x89
      ki_Known_Ended := x90
      ki_Known_Fell := x91
      ki_Known_Paid := x92
      ki_Known_NoBids := x93
      ki_Known_NotWaiting := x94
      ki_Known_Uncovered := x95
      ki_Known_NoOrder := x96
      x_Unknown := x97
      kp_Unknown := x98
      e_Unknown := ⟨x99_0, x99_1, x99_2, x99_3, x99_4, x99_5, x99_6, x99_7⟩
      su_Unknown_SusuError := x100
      su_Unknown_Unknown := x101
      ki_Unknown_BadName := x102
      ki_Unknown_BadNumber := x103
      ki_Unknown_Known := x104
      ki_Unknown_Unknown := x105
      ki_Unknown_Twice := x106
      ki_Unknown_Seated := x107
      ki_Unknown_Holding := x108
      ki_Unknown_Short := x109
      ki_Unknown_NoSeat := x110
      ki_Unknown_Ended := x111
      ki_Unknown_Fell := x112
      ki_Unknown_Paid := x113
      ki_Unknown_NoBids := x114
      ki_Unknown_NotWaiting := x115
      ki_Unknown_Uncovered := x116
      ki_Unknown_NoOrder := x117
      x_Seated := x118
      kp_Seated := x119
      e_Seated := ⟨x120_0, x120_1, x120_2, x120_3, x120_4, x120_5, x120_6, x120_7⟩
      su_Seated_SusuError := x121
      su_Seated_Unknown := x122
      ki_Seated_BadName := x123
      ki_Seated_BadNumber := x124
      ki_Seated_Known := x125
      ki_Seated_Unknown := x126
      ki_Seated_Twice := x127
      ki_Seated_Seated := x128
      ki_Seated_Holding := x129
      ki_Seated_Short := x130
      ki_Seated_NoSeat := x131
      ki_Seated_Ended := x132
      ki_Seated_Fell := x133
      ki_Seated_Paid := x134
      ki_Seated_NoBids := x135
      ki_Seated_NotWaiting := x136
      ki_Seated_Uncovered := x137
      ki_Seated_NoOrder := x138
      x_Holding := x139
      kp_Holding := x140
      e_Holding := ⟨x141_0, x141_1, x141_2, x141_3, x141_4, x141_5, x141_6, x141_7⟩
      su_Holding_SusuError := x142
      su_Holding_Unknown := x143
      ki_Holding_BadName := x144
      ki_Holding_BadNumber := x145
      ki_Holding_Known := x146
      ki_Holding_Unknown := x147
      ki_Holding_Twice := x148
      ki_Holding_Seated := x149
      ki_Holding_Holding := x150
      ki_Holding_Short := x151
      ki_Holding_NoSeat := x152
      ki_Holding_Ended := x153
      ki_Holding_Fell := x154
      ki_Holding_Paid := x155
      ki_Holding_NoBids := x156
      ki_Holding_NotWaiting := x157
      ki_Holding_Uncovered := x158
      ki_Holding_NoOrder := x159
      x_Short := x160
      kp_Short := x161
      e_Short := ⟨x162_0, x162_1, x162_2, x162_3, x162_4, x162_5, x162_6, x162_7⟩
      su_Short_SusuError := x163
      su_Short_Unknown := x164
      ki_Short_BadName := x165
      ki_Short_BadNumber := x166
      ki_Short_Known := x167
      ki_Short_Unknown := x168
      ki_Short_Twice := x169
      ki_Short_Seated := x170
      ki_Short_Holding := x171
      ki_Short_Short := x172
      ki_Short_NoSeat := x173
      ki_Short_Ended := x174
      ki_Short_Fell := x175
      ki_Short_Paid := x176
      ki_Short_NoBids := x177
      ki_Short_NotWaiting := x178
      ki_Short_Uncovered := x179
      ki_Short_NoOrder := x180
      sb_BadName := x181
      ty_BadName := x182
      sb_BadNumber := x183
      ty_BadNumber := x184
      sb_Holding := x185
      ty_Holding := x186
      sb_Known := x187
      ty_Known := x188
      sb_Seated := x189
      ty_Seated := x190
      sb_Short := x191
      ty_Short := x192
      sb_SusuError := x193
      ty_SusuError := x194
      sb_Unknown := x195
      ty_Unknown := x196
      hd_SusuError := x197
      hd_Unknown := x198
      f_ACTIONS := fq0
      m_ACTIONS := PySem.W.mg_of X G mq0
set_option maxHeartbeats 4000000 in
theorem all_mk {l : PySem.W.OpenLaw} {w : World} {K : PySem.W.Frag} {h : Heap} {mg : Str → Option Value} {fa : Addr} (X : K.In h) (G : h.Ns mainGlobals mg) (hfa : mg "law" = some (.ref fa))
    (hT : ∀ p ∈ ([(326, 322)] : List (Addr × Addr)), h.get? p.2 = some { cls := .none, data := .fields #[] }) (nT : ∀ p ∈ ([(326, 322)] : List (Addr × Addr)), K.lookup p.2 = none) (hC : ∀ p ∈ ([(326, 322)] : List (Addr × Addr)), PySem.W.CodeHd h p.1 p.2)
    {gc_House : Addr} (g_House : PySem.W.nsIn K mainGlobals "House" = some (some (.ref gc_House)))
    {gc_Table : Addr} (g_Table : PySem.W.nsIn K mainGlobals "Table" = some (some (.ref gc_Table)))
    {gc_Circle : Addr} (g_Circle : PySem.W.nsIn K mainGlobals "Circle" = some (some (.ref gc_Circle)))
    {gc_Seat : Addr} (g_Seat : PySem.W.nsIn K mainGlobals "Seat" = some (some (.ref gc_Seat)))
    {gc_Books : Addr} (g_Books : PySem.W.nsIn K mainGlobals "Books" = some (some (.ref gc_Books)))
    {od0 an0 : Option Addr} {sl0 : Array (Option Value)} {oc0 kV0 dc0 pm0 cd0 ct0 : Value} {f0 : Addr}
    (a0 : PySem.W.nsIn K mainGlobals "_wall" = some (some (.ref f0))) (l0 : K.lookup f0 = some ⟨oc0, od0, .func (PySem.W.fnOf "_wall" "_wall" (defArgs s__wall) (defBody s__wall) (defScope s__wall) .none kV0 dc0 pm0 an0 cd0 ct0), sl0⟩) (c0 : PySem.W.codeIn K cd0 "_wall" = true) (k0 : PySem.W.keepIn K (.ref f0) = true)
    {od1 an1 : Option Addr} {sl1 : Array (Option Value)} {oc1 kV1 dc1 pm1 cd1 ct1 : Value} {f1 : Addr}
    (a1 : PySem.W.findIn K (.ref gc_Books) "__init__" = some (some (.ref f1))) (i1 : PySem.W.isFn K (.ref f1) = true) (l1 : K.lookup f1 = some ⟨oc1, od1, .func (PySem.W.fnOf "__init__" "Books.__init__" (defArgs s_Books___init__) (defBody s_Books___init__) (defScope s_Books___init__) .none kV1 dc1 pm1 an1 cd1 ct1), sl1⟩) (c1 : PySem.W.codeIn K cd1 "Books.__init__" = true) (k1 : PySem.W.keepIn K (.ref f1) = true)
    {od2 an2 : Option Addr} {sl2 : Array (Option Value)} {oc2 kV2 dc2 pm2 cd2 ct2 : Value} {f2 : Addr}
    (a2 : PySem.W.findIn K (.ref gc_Books) "put" = some (some (.ref f2))) (i2 : PySem.W.isFn K (.ref f2) = true) (l2 : K.lookup f2 = some ⟨oc2, od2, .func (PySem.W.fnOf "put" "Books.put" (defArgs s_Books_put) (defBody s_Books_put) (defScope s_Books_put) .none kV2 dc2 pm2 an2 cd2 ct2), sl2⟩) (c2 : PySem.W.codeIn K cd2 "Books.put" = true) (k2 : PySem.W.keepIn K (.ref f2) = true)
    {od3 an3 : Option Addr} {sl3 : Array (Option Value)} {oc3 kV3 dc3 pm3 cd3 ct3 : Value} {f3 : Addr}
    (a3 : PySem.W.findIn K (.ref gc_Books) "undo_to" = some (some (.ref f3))) (i3 : PySem.W.isFn K (.ref f3) = true) (l3 : K.lookup f3 = some ⟨oc3, od3, .func (PySem.W.fnOf "undo_to" "Books.undo_to" (defArgs s_Books_undo_to) (defBody s_Books_undo_to) (defScope s_Books_undo_to) .none kV3 dc3 pm3 an3 cd3 ct3), sl3⟩) (c3 : PySem.W.codeIn K cd3 "Books.undo_to" = true) (k3 : PySem.W.keepIn K (.ref f3) = true)
    {od4 an4 : Option Addr} {sl4 : Array (Option Value)} {oc4 kV4 dc4 pm4 cd4 ct4 : Value} {f4 : Addr}
    (a4 : PySem.W.findIn K (.ref gc_Books) "has_member" = some (some (.ref f4))) (i4 : PySem.W.isFn K (.ref f4) = true) (l4 : K.lookup f4 = some ⟨oc4, od4, .func (PySem.W.fnOf "has_member" "Books.has_member" (defArgs s_Books_has_member) (defBody s_Books_has_member) (defScope s_Books_has_member) .none kV4 dc4 pm4 an4 cd4 ct4), sl4⟩) (c4 : PySem.W.codeIn K cd4 "Books.has_member" = true) (k4 : PySem.W.keepIn K (.ref f4) = true)
    {od5 an5 : Option Addr} {sl5 : Array (Option Value)} {oc5 kV5 dc5 pm5 cd5 ct5 : Value} {f5 : Addr}
    (a5 : PySem.W.findIn K (.ref gc_Books) "has_table" = some (some (.ref f5))) (i5 : PySem.W.isFn K (.ref f5) = true) (l5 : K.lookup f5 = some ⟨oc5, od5, .func (PySem.W.fnOf "has_table" "Books.has_table" (defArgs s_Books_has_table) (defBody s_Books_has_table) (defScope s_Books_has_table) .none kV5 dc5 pm5 an5 cd5 ct5), sl5⟩) (c5 : PySem.W.codeIn K cd5 "Books.has_table" = true) (k5 : PySem.W.keepIn K (.ref f5) = true)
    {od6 an6 : Option Addr} {sl6 : Array (Option Value)} {oc6 kV6 dc6 pm6 cd6 ct6 : Value} {f6 : Addr}
    (a6 : PySem.W.findIn K (.ref gc_Books) "purse_of" = some (some (.ref f6))) (i6 : PySem.W.isFn K (.ref f6) = true) (l6 : K.lookup f6 = some ⟨oc6, od6, .func (PySem.W.fnOf "purse_of" "Books.purse_of" (defArgs s_Books_purse_of) (defBody s_Books_purse_of) (defScope s_Books_purse_of) .none kV6 dc6 pm6 an6 cd6 ct6), sl6⟩) (c6 : PySem.W.codeIn K cd6 "Books.purse_of" = true) (k6 : PySem.W.keepIn K (.ref f6) = true)
    {od7 an7 : Option Addr} {sl7 : Array (Option Value)} {oc7 kV7 dc7 pm7 cd7 ct7 : Value} {f7 : Addr}
    (a7 : PySem.W.findIn K (.ref gc_Books) "table_of" = some (some (.ref f7))) (i7 : PySem.W.isFn K (.ref f7) = true) (l7 : K.lookup f7 = some ⟨oc7, od7, .func (PySem.W.fnOf "table_of" "Books.table_of" (defArgs s_Books_table_of) (defBody s_Books_table_of) (defScope s_Books_table_of) .none kV7 dc7 pm7 an7 cd7 ct7), sl7⟩) (c7 : PySem.W.codeIn K cd7 "Books.table_of" = true) (k7 : PySem.W.keepIn K (.ref f7) = true)
    {od8 an8 : Option Addr} {sl8 : Array (Option Value)} {oc8 kV8 dc8 pm8 cd8 ct8 : Value} {f8 : Addr}
    (a8 : PySem.W.findIn K (.ref gc_Books) "brought" = some (some (.ref f8))) (i8 : PySem.W.isFn K (.ref f8) = true) (l8 : K.lookup f8 = some ⟨oc8, od8, .func (PySem.W.fnOf "brought" "Books.brought" (defArgs s_Books_brought) (defBody s_Books_brought) (defScope s_Books_brought) .none kV8 dc8 pm8 an8 cd8 ct8), sl8⟩) (c8 : PySem.W.codeIn K cd8 "Books.brought" = true) (k8 : PySem.W.keepIn K (.ref f8) = true)
    {od9 an9 : Option Addr} {sl9 : Array (Option Value)} {oc9 kV9 dc9 pm9 cd9 ct9 : Value} {f9 : Addr}
    (a9 : PySem.W.findIn K (.ref gc_Books) "member_names" = some (some (.ref f9))) (i9 : PySem.W.isFn K (.ref f9) = true) (l9 : K.lookup f9 = some ⟨oc9, od9, .func (PySem.W.fnOf "member_names" "Books.member_names" (defArgs s_Books_member_names) (defBody s_Books_member_names) (defScope s_Books_member_names) .none kV9 dc9 pm9 an9 cd9 ct9), sl9⟩) (c9 : PySem.W.codeIn K cd9 "Books.member_names" = true) (k9 : PySem.W.keepIn K (.ref f9) = true)
    {od10 an10 : Option Addr} {sl10 : Array (Option Value)} {oc10 kV10 dc10 pm10 cd10 ct10 : Value} {f10 : Addr}
    (a10 : PySem.W.findIn K (.ref gc_Books) "table_names" = some (some (.ref f10))) (i10 : PySem.W.isFn K (.ref f10) = true) (l10 : K.lookup f10 = some ⟨oc10, od10, .func (PySem.W.fnOf "table_names" "Books.table_names" (defArgs s_Books_table_names) (defBody s_Books_table_names) (defScope s_Books_table_names) .none kV10 dc10 pm10 an10 cd10 ct10), sl10⟩) (c10 : PySem.W.codeIn K cd10 "Books.table_names" = true) (k10 : PySem.W.keepIn K (.ref f10) = true)
    {od11 an11 : Option Addr} {sl11 : Array (Option Value)} {oc11 kV11 dc11 pm11 cd11 ct11 : Value} {f11 : Addr}
    (a11 : PySem.W.findIn K (.ref gc_Books) "all_tables" = some (some (.ref f11))) (i11 : PySem.W.isFn K (.ref f11) = true) (l11 : K.lookup f11 = some ⟨oc11, od11, .func (PySem.W.fnOf "all_tables" "Books.all_tables" (defArgs s_Books_all_tables) (defBody s_Books_all_tables) (defScope s_Books_all_tables) .none kV11 dc11 pm11 an11 cd11 ct11), sl11⟩) (c11 : PySem.W.codeIn K cd11 "Books.all_tables" = true) (k11 : PySem.W.keepIn K (.ref f11) = true)
    {od12 an12 : Option Addr} {sl12 : Array (Option Value)} {oc12 kV12 dc12 pm12 cd12 ct12 : Value} {f12 : Addr}
    (a12 : PySem.W.findIn K (.ref gc_Books) "add_member" = some (some (.ref f12))) (i12 : PySem.W.isFn K (.ref f12) = true) (l12 : K.lookup f12 = some ⟨oc12, od12, .func (PySem.W.fnOf "add_member" "Books.add_member" (defArgs s_Books_add_member) (defBody s_Books_add_member) (defScope s_Books_add_member) .none kV12 dc12 pm12 an12 cd12 ct12), sl12⟩) (c12 : PySem.W.codeIn K cd12 "Books.add_member" = true) (k12 : PySem.W.keepIn K (.ref f12) = true)
    {od13 an13 : Option Addr} {sl13 : Array (Option Value)} {oc13 kV13 dc13 pm13 cd13 ct13 : Value} {f13 : Addr}
    (a13 : PySem.W.findIn K (.ref gc_Books) "drop_member" = some (some (.ref f13))) (i13 : PySem.W.isFn K (.ref f13) = true) (l13 : K.lookup f13 = some ⟨oc13, od13, .func (PySem.W.fnOf "drop_member" "Books.drop_member" (defArgs s_Books_drop_member) (defBody s_Books_drop_member) (defScope s_Books_drop_member) .none kV13 dc13 pm13 an13 cd13 ct13), sl13⟩) (c13 : PySem.W.codeIn K cd13 "Books.drop_member" = true) (k13 : PySem.W.keepIn K (.ref f13) = true)
    {od14 an14 : Option Addr} {sl14 : Array (Option Value)} {oc14 kV14 dc14 pm14 cd14 ct14 : Value} {f14 : Addr}
    (a14 : PySem.W.findIn K (.ref gc_Books) "put_table" = some (some (.ref f14))) (i14 : PySem.W.isFn K (.ref f14) = true) (l14 : K.lookup f14 = some ⟨oc14, od14, .func (PySem.W.fnOf "put_table" "Books.put_table" (defArgs s_Books_put_table) (defBody s_Books_put_table) (defScope s_Books_put_table) .none kV14 dc14 pm14 an14 cd14 ct14), sl14⟩) (c14 : PySem.W.codeIn K cd14 "Books.put_table" = true) (k14 : PySem.W.keepIn K (.ref f14) = true)
    {od15 an15 : Option Addr} {sl15 : Array (Option Value)} {oc15 kV15 dc15 pm15 cd15 ct15 : Value} {f15 : Addr}
    (a15 : PySem.W.findIn K (.ref gc_Books) "add_coins" = some (some (.ref f15))) (i15 : PySem.W.isFn K (.ref f15) = true) (l15 : K.lookup f15 = some ⟨oc15, od15, .func (PySem.W.fnOf "add_coins" "Books.add_coins" (defArgs s_Books_add_coins) (defBody s_Books_add_coins) (defScope s_Books_add_coins) .none kV15 dc15 pm15 an15 cd15 ct15), sl15⟩) (c15 : PySem.W.codeIn K cd15 "Books.add_coins" = true) (k15 : PySem.W.keepIn K (.ref f15) = true)
    {od16 an16 : Option Addr} {sl16 : Array (Option Value)} {oc16 kV16 dc16 pm16 cd16 ct16 : Value} {f16 : Addr}
    (a16 : PySem.W.findIn K (.ref gc_Books) "add_brought" = some (some (.ref f16))) (i16 : PySem.W.isFn K (.ref f16) = true) (l16 : K.lookup f16 = some ⟨oc16, od16, .func (PySem.W.fnOf "add_brought" "Books.add_brought" (defArgs s_Books_add_brought) (defBody s_Books_add_brought) (defScope s_Books_add_brought) .none kV16 dc16 pm16 an16 cd16 ct16), sl16⟩) (c16 : PySem.W.codeIn K cd16 "Books.add_brought" = true) (k16 : PySem.W.keepIn K (.ref f16) = true)
    {od17 an17 : Option Addr} {sl17 : Array (Option Value)} {oc17 kV17 dc17 pm17 cd17 ct17 : Value} {f17 : Addr}
    (a17 : PySem.W.findIn K (.ref gc_Books) "refuse_short" = some (some (.ref f17))) (i17 : PySem.W.isFn K (.ref f17) = true) (l17 : K.lookup f17 = some ⟨oc17, od17, .func (PySem.W.fnOf "refuse_short" "Books.refuse_short" (defArgs s_Books_refuse_short) (defBody s_Books_refuse_short) (defScope s_Books_refuse_short) .none kV17 dc17 pm17 an17 cd17 ct17), sl17⟩) (c17 : PySem.W.codeIn K cd17 "Books.refuse_short" = true) (k17 : PySem.W.keepIn K (.ref f17) = true)
    {od18 an18 : Option Addr} {sl18 : Array (Option Value)} {oc18 kV18 dc18 pm18 cd18 ct18 : Value} {f18 : Addr}
    (a18 : PySem.W.findIn K (.ref gc_Books) "twin" = some (some (.ref f18))) (i18 : PySem.W.isFn K (.ref f18) = true) (l18 : K.lookup f18 = some ⟨oc18, od18, .func (PySem.W.fnOf "twin" "Books.twin" (defArgs s_Books_twin) (defBody s_Books_twin) (defScope s_Books_twin) .none kV18 dc18 pm18 an18 cd18 ct18), sl18⟩) (c18 : PySem.W.codeIn K cd18 "Books.twin" = true) (k18 : PySem.W.keepIn K (.ref f18) = true)
    {od19 an19 : Option Addr} {sl19 : Array (Option Value)} {oc19 kV19 dc19 pm19 cd19 ct19 : Value} {f19 : Addr}
    (a19 : PySem.W.nsIn K mainGlobals "set_down" = some (some (.ref f19))) (l19 : K.lookup f19 = some ⟨oc19, od19, .func (PySem.W.fnOf "set_down" "set_down" (defArgs s_set_down) (defBody s_set_down) (defScope s_set_down) .none kV19 dc19 pm19 an19 cd19 ct19), sl19⟩) (c19 : PySem.W.codeIn K cd19 "set_down" = true) (k19 : PySem.W.keepIn K (.ref f19) = true)
    {od20 an20 : Option Addr} {sl20 : Array (Option Value)} {oc20 kV20 dc20 pm20 cd20 ct20 : Value} {f20 : Addr}
    (a20 : PySem.W.nsIn K mainGlobals "first_covered" = some (some (.ref f20))) (l20 : K.lookup f20 = some ⟨oc20, od20, .func (PySem.W.fnOf "first_covered" "first_covered" (defArgs s_first_covered) (defBody s_first_covered) (defScope s_first_covered) .none kV20 dc20 pm20 an20 cd20 ct20), sl20⟩) (c20 : PySem.W.codeIn K cd20 "first_covered" = true) (k20 : PySem.W.keepIn K (.ref f20) = true)
    {od21 an21 : Option Addr} {sl21 : Array (Option Value)} {oc21 kV21 dc21 pm21 cd21 ct21 : Value} {f21 : Addr}
    (a21 : PySem.W.nsIn K mainGlobals "is_covered" = some (some (.ref f21))) (l21 : K.lookup f21 = some ⟨oc21, od21, .func (PySem.W.fnOf "is_covered" "is_covered" (defArgs s_is_covered) (defBody s_is_covered) (defScope s_is_covered) .none kV21 dc21 pm21 an21 cd21 ct21), sl21⟩) (c21 : PySem.W.codeIn K cd21 "is_covered" = true) (k21 : PySem.W.keepIn K (.ref f21) = true)
    {od22 an22 : Option Addr} {sl22 : Array (Option Value)} {oc22 kV22 dc22 pm22 cd22 ct22 : Value} {f22 : Addr}
    (a22 : PySem.W.nsIn K mainGlobals "within" = some (some (.ref f22))) (l22 : K.lookup f22 = some ⟨oc22, od22, .func (PySem.W.fnOf "within" "within" (defArgs s_within) (defBody s_within) (defScope s_within) .none kV22 dc22 pm22 an22 cd22 ct22), sl22⟩) (c22 : PySem.W.codeIn K cd22 "within" = true) (k22 : PySem.W.keepIn K (.ref f22) = true)
    {od23 an23 : Option Addr} {sl23 : Array (Option Value)} {oc23 kV23 dc23 pm23 cd23 ct23 : Value} {f23 : Addr}
    (a23 : PySem.W.nsIn K mainGlobals "order_or_bar" = some (some (.ref f23))) (l23 : K.lookup f23 = some ⟨oc23, od23, .func (PySem.W.fnOf "order_or_bar" "order_or_bar" (defArgs s_order_or_bar) (defBody s_order_or_bar) (defScope s_order_or_bar) .none kV23 dc23 pm23 an23 cd23 ct23), sl23⟩) (c23 : PySem.W.codeIn K cd23 "order_or_bar" = true) (k23 : PySem.W.keepIn K (.ref f23) = true)
    {od24 an24 : Option Addr} {sl24 : Array (Option Value)} {oc24 kV24 dc24 pm24 cd24 ct24 : Value} {f24 : Addr}
    (a24 : PySem.W.nsIn K mainGlobals "told_order" = some (some (.ref f24))) (l24 : K.lookup f24 = some ⟨oc24, od24, .func (PySem.W.fnOf "told_order" "told_order" (defArgs s_told_order) (defBody s_told_order) (defScope s_told_order) .none kV24 dc24 pm24 an24 cd24 ct24), sl24⟩) (c24 : PySem.W.codeIn K cd24 "told_order" = true) (k24 : PySem.W.keepIn K (.ref f24) = true)
    {od25 an25 : Option Addr} {sl25 : Array (Option Value)} {oc25 kV25 dc25 pm25 cd25 ct25 : Value} {f25 : Addr}
    (a25 : PySem.W.nsIn K mainGlobals "fullest_span" = some (some (.ref f25))) (l25 : K.lookup f25 = some ⟨oc25, od25, .func (PySem.W.fnOf "fullest_span" "fullest_span" (defArgs s_fullest_span) (defBody s_fullest_span) (defScope s_fullest_span) .none kV25 dc25 pm25 an25 cd25 ct25), sl25⟩) (c25 : PySem.W.codeIn K cd25 "fullest_span" = true) (k25 : PySem.W.keepIn K (.ref f25) = true)
    {od26 an26 : Option Addr} {sl26 : Array (Option Value)} {oc26 kV26 dc26 pm26 cd26 ct26 : Value} {f26 : Addr}
    (a26 : PySem.W.nsIn K mainGlobals "surplus" = some (some (.ref f26))) (l26 : K.lookup f26 = some ⟨oc26, od26, .func (PySem.W.fnOf "surplus" "surplus" (defArgs s_surplus) (defBody s_surplus) (defScope s_surplus) .none kV26 dc26 pm26 an26 cd26 ct26), sl26⟩) (c26 : PySem.W.codeIn K cd26 "surplus" = true) (k26 : PySem.W.keepIn K (.ref f26) = true)
    {od27 an27 : Option Addr} {sl27 : Array (Option Value)} {oc27 kV27 dc27 pm27 cd27 ct27 : Value} {f27 : Addr}
    (a27 : PySem.W.nsIn K mainGlobals "rounds_between" = some (some (.ref f27))) (l27 : K.lookup f27 = some ⟨oc27, od27, .func (PySem.W.fnOf "rounds_between" "rounds_between" (defArgs s_rounds_between) (defBody s_rounds_between) (defScope s_rounds_between) .none kV27 dc27 pm27 an27 cd27 ct27), sl27⟩) (c27 : PySem.W.codeIn K cd27 "rounds_between" = true) (k27 : PySem.W.keepIn K (.ref f27) = true)
    {od28 an28 : Option Addr} {sl28 : Array (Option Value)} {oc28 kV28 dc28 pm28 cd28 ct28 : Value} {f28 : Addr}
    (a28 : PySem.W.findIn K (.ref gc_Seat) "__init__" = some (some (.ref f28))) (i28 : PySem.W.isFn K (.ref f28) = true) (l28 : K.lookup f28 = some ⟨oc28, od28, .func (PySem.W.fnOf "__init__" "Seat.__init__" (defArgs s_Seat___init__) (defBody s_Seat___init__) (defScope s_Seat___init__) .none kV28 dc28 pm28 an28 cd28 ct28), sl28⟩) (c28 : PySem.W.codeIn K cd28 "Seat.__init__" = true) (k28 : PySem.W.keepIn K (.ref f28) = true)
    {od29 an29 : Option Addr} {sl29 : Array (Option Value)} {oc29 kV29 dc29 pm29 cd29 ct29 : Value} {f29 : Addr}
    (a29 : PySem.W.findIn K (.ref gc_Seat) "twin" = some (some (.ref f29))) (i29 : PySem.W.isFn K (.ref f29) = true) (l29 : K.lookup f29 = some ⟨oc29, od29, .func (PySem.W.fnOf "twin" "Seat.twin" (defArgs s_Seat_twin) (defBody s_Seat_twin) (defScope s_Seat_twin) .none kV29 dc29 pm29 an29 cd29 ct29), sl29⟩) (c29 : PySem.W.codeIn K cd29 "Seat.twin" = true) (k29 : PySem.W.keepIn K (.ref f29) = true)
    {dT30 : Addr}
    {od30 an30 : Option Addr} {sl30 : Array (Option Value)} {oc30 kV30 dc30 pm30 cd30 ct30 : Value} {f30 : Addr}
    (a30 : PySem.W.findIn K (.ref gc_Circle) "__init__" = some (some (.ref f30))) (i30 : PySem.W.isFn K (.ref f30) = true) (l30 : K.lookup f30 = some ⟨oc30, od30, .func (PySem.W.fnOf "__init__" "Circle.__init__" (defArgs s_Circle___init__) (defBody s_Circle___init__) (defScope s_Circle___init__) (.ref dT30) kV30 dc30 pm30 an30 cd30 ct30), sl30⟩) (c30 : PySem.W.codeIn K cd30 "Circle.__init__" = true) (k30 : PySem.W.keepIn K (.ref f30) = true)
    {dc030 : Value} {dd030 : Option Addr} {dn030 : Nat} {ds030 : Array (Option Value)} (e30 : K.lookup dT30 = some ⟨dc030, dd030, .seq #[Value.bool false] dn030, ds030⟩)
    {od31 an31 : Option Addr} {sl31 : Array (Option Value)} {oc31 kV31 dc31 pm31 cd31 ct31 : Value} {f31 : Addr}
    (a31 : PySem.W.findIn K (.ref gc_Circle) "turn" = some (some (.ref f31))) (i31 : PySem.W.isFn K (.ref f31) = true) (l31 : K.lookup f31 = some ⟨oc31, od31, .func (PySem.W.fnOf "turn" "Circle.turn" (defArgs s_Circle_turn) (defBody s_Circle_turn) (defScope s_Circle_turn) .none kV31 dc31 pm31 an31 cd31 ct31), sl31⟩) (c31 : PySem.W.codeIn K cd31 "Circle.turn" = true) (k31 : PySem.W.keepIn K (.ref f31) = true)
    {od32 an32 : Option Addr} {sl32 : Array (Option Value)} {oc32 kV32 dc32 pm32 cd32 ct32 : Value} {f32 : Addr}
    (a32 : PySem.W.findIn K (.ref gc_Circle) "ended" = some (some (.ref f32))) (i32 : PySem.W.isFn K (.ref f32) = true) (l32 : K.lookup f32 = some ⟨oc32, od32, .func (PySem.W.fnOf "ended" "Circle.ended" (defArgs s_Circle_ended) (defBody s_Circle_ended) (defScope s_Circle_ended) .none kV32 dc32 pm32 an32 cd32 ct32), sl32⟩) (c32 : PySem.W.codeIn K cd32 "Circle.ended" = true) (k32 : PySem.W.keepIn K (.ref f32) = true)
    {od33 an33 : Option Addr} {sl33 : Array (Option Value)} {oc33 kV33 dc33 pm33 cd33 ct33 : Value} {f33 : Addr}
    (a33 : PySem.W.findIn K (.ref gc_Circle) "queue" = some (some (.ref f33))) (i33 : PySem.W.isFn K (.ref f33) = true) (l33 : K.lookup f33 = some ⟨oc33, od33, .func (PySem.W.fnOf "queue" "Circle.queue" (defArgs s_Circle_queue) (defBody s_Circle_queue) (defScope s_Circle_queue) .none kV33 dc33 pm33 an33 cd33 ct33), sl33⟩) (c33 : PySem.W.codeIn K cd33 "Circle.queue" = true) (k33 : PySem.W.keepIn K (.ref f33) = true)
    {od34 an34 : Option Addr} {sl34 : Array (Option Value)} {oc34 kV34 dc34 pm34 cd34 ct34 : Value} {f34 : Addr}
    (a34 : PySem.W.findIn K (.ref gc_Circle) "rests" = some (some (.ref f34))) (i34 : PySem.W.isFn K (.ref f34) = true) (l34 : K.lookup f34 = some ⟨oc34, od34, .func (PySem.W.fnOf "rests" "Circle.rests" (defArgs s_Circle_rests) (defBody s_Circle_rests) (defScope s_Circle_rests) .none kV34 dc34 pm34 an34 cd34 ct34), sl34⟩) (c34 : PySem.W.codeIn K cd34 "Circle.rests" = true) (k34 : PySem.W.keepIn K (.ref f34) = true)
    {od35 an35 : Option Addr} {sl35 : Array (Option Value)} {oc35 kV35 dc35 pm35 cd35 ct35 : Value} {f35 : Addr}
    (a35 : PySem.W.findIn K (.ref gc_Circle) "box" = some (some (.ref f35))) (i35 : PySem.W.isFn K (.ref f35) = true) (l35 : K.lookup f35 = some ⟨oc35, od35, .func (PySem.W.fnOf "box" "Circle.box" (defArgs s_Circle_box) (defBody s_Circle_box) (defScope s_Circle_box) .none kV35 dc35 pm35 an35 cd35 ct35), sl35⟩) (c35 : PySem.W.codeIn K cd35 "Circle.box" = true) (k35 : PySem.W.keepIn K (.ref f35) = true)
    {od36 an36 : Option Addr} {sl36 : Array (Option Value)} {oc36 kV36 dc36 pm36 cd36 ct36 : Value} {f36 : Addr}
    (a36 : PySem.W.findIn K (.ref gc_Circle) "pot" = some (some (.ref f36))) (i36 : PySem.W.isFn K (.ref f36) = true) (l36 : K.lookup f36 = some ⟨oc36, od36, .func (PySem.W.fnOf "pot" "Circle.pot" (defArgs s_Circle_pot) (defBody s_Circle_pot) (defScope s_Circle_pot) .none kV36 dc36 pm36 an36 cd36 ct36), sl36⟩) (c36 : PySem.W.codeIn K cd36 "Circle.pot" = true) (k36 : PySem.W.keepIn K (.ref f36) = true)
    {od37 an37 : Option Addr} {sl37 : Array (Option Value)} {oc37 kV37 dc37 pm37 cd37 ct37 : Value} {f37 : Addr}
    (a37 : PySem.W.findIn K (.ref gc_Circle) "seat" = some (some (.ref f37))) (i37 : PySem.W.isFn K (.ref f37) = true) (l37 : K.lookup f37 = some ⟨oc37, od37, .func (PySem.W.fnOf "seat" "Circle.seat" (defArgs s_Circle_seat) (defBody s_Circle_seat) (defScope s_Circle_seat) .none kV37 dc37 pm37 an37 cd37 ct37), sl37⟩) (c37 : PySem.W.codeIn K cd37 "Circle.seat" = true) (k37 : PySem.W.keepIn K (.ref f37) = true)
    {od38 an38 : Option Addr} {sl38 : Array (Option Value)} {oc38 kV38 dc38 pm38 cd38 ct38 : Value} {f38 : Addr}
    (a38 : PySem.W.findIn K (.ref gc_Circle) "expected" = some (some (.ref f38))) (i38 : PySem.W.isFn K (.ref f38) = true) (l38 : K.lookup f38 = some ⟨oc38, od38, .func (PySem.W.fnOf "expected" "Circle.expected" (defArgs s_Circle_expected) (defBody s_Circle_expected) (defScope s_Circle_expected) .none kV38 dc38 pm38 an38 cd38 ct38), sl38⟩) (c38 : PySem.W.codeIn K cd38 "Circle.expected" = true) (k38 : PySem.W.keepIn K (.ref f38) = true)
    {od39 an39 : Option Addr} {sl39 : Array (Option Value)} {oc39 kV39 dc39 pm39 cd39 ct39 : Value} {f39 : Addr}
    (a39 : PySem.W.findIn K (.ref gc_Circle) "close" = some (some (.ref f39))) (i39 : PySem.W.isFn K (.ref f39) = true) (l39 : K.lookup f39 = some ⟨oc39, od39, .func (PySem.W.fnOf "close" "Circle.close" (defArgs s_Circle_close) (defBody s_Circle_close) (defScope s_Circle_close) .none kV39 dc39 pm39 an39 cd39 ct39), sl39⟩) (c39 : PySem.W.codeIn K cd39 "Circle.close" = true) (k39 : PySem.W.keepIn K (.ref f39) = true)
    {od40 an40 : Option Addr} {sl40 : Array (Option Value)} {oc40 kV40 dc40 pm40 cd40 ct40 : Value} {f40 : Addr}
    (a40 : PySem.W.findIn K (.ref gc_Circle) "lay" = some (some (.ref f40))) (i40 : PySem.W.isFn K (.ref f40) = true) (l40 : K.lookup f40 = some ⟨oc40, od40, .func (PySem.W.fnOf "lay" "Circle.lay" (defArgs s_Circle_lay) (defBody s_Circle_lay) (defScope s_Circle_lay) .none kV40 dc40 pm40 an40 cd40 ct40), sl40⟩) (c40 : PySem.W.codeIn K cd40 "Circle.lay" = true) (k40 : PySem.W.keepIn K (.ref f40) = true)
    {od41 an41 : Option Addr} {sl41 : Array (Option Value)} {oc41 kV41 dc41 pm41 cd41 ct41 : Value} {f41 : Addr}
    (a41 : PySem.W.findIn K (.ref gc_Circle) "swap" = some (some (.ref f41))) (i41 : PySem.W.isFn K (.ref f41) = true) (l41 : K.lookup f41 = some ⟨oc41, od41, .func (PySem.W.fnOf "swap" "Circle.swap" (defArgs s_Circle_swap) (defBody s_Circle_swap) (defScope s_Circle_swap) .none kV41 dc41 pm41 an41 cd41 ct41), sl41⟩) (c41 : PySem.W.codeIn K cd41 "Circle.swap" = true) (k41 : PySem.W.keepIn K (.ref f41) = true)
    {od42 an42 : Option Addr} {sl42 : Array (Option Value)} {oc42 kV42 dc42 pm42 cd42 ct42 : Value} {f42 : Addr}
    (a42 : PySem.W.findIn K (.ref gc_Circle) "refunds" = some (some (.ref f42))) (i42 : PySem.W.isFn K (.ref f42) = true) (l42 : K.lookup f42 = some ⟨oc42, od42, .func (PySem.W.fnOf "refunds" "Circle.refunds" (defArgs s_Circle_refunds) (defBody s_Circle_refunds) (defScope s_Circle_refunds) .none kV42 dc42 pm42 an42 cd42 ct42), sl42⟩) (c42 : PySem.W.codeIn K cd42 "Circle.refunds" = true) (k42 : PySem.W.keepIn K (.ref f42) = true)
    {od43 an43 : Option Addr} {sl43 : Array (Option Value)} {oc43 kV43 dc43 pm43 cd43 ct43 : Value} {f43 : Addr}
    (a43 : PySem.W.findIn K (.ref gc_Circle) "twin" = some (some (.ref f43))) (i43 : PySem.W.isFn K (.ref f43) = true) (l43 : K.lookup f43 = some ⟨oc43, od43, .func (PySem.W.fnOf "twin" "Circle.twin" (defArgs s_Circle_twin) (defBody s_Circle_twin) (defScope s_Circle_twin) .none kV43 dc43 pm43 an43 cd43 ct43), sl43⟩) (c43 : PySem.W.codeIn K cd43 "Circle.twin" = true) (k43 : PySem.W.keepIn K (.ref f43) = true)
    {od44 an44 : Option Addr} {sl44 : Array (Option Value)} {oc44 kV44 dc44 pm44 cd44 ct44 : Value} {f44 : Addr}
    (a44 : PySem.W.findIn K (.ref gc_Circle) "seat_at" = some (some (.ref f44))) (i44 : PySem.W.isFn K (.ref f44) = true) (l44 : K.lookup f44 = some ⟨oc44, od44, .func (PySem.W.fnOf "seat_at" "Circle.seat_at" (defArgs s_Circle_seat_at) (defBody s_Circle_seat_at) (defScope s_Circle_seat_at) .none kV44 dc44 pm44 an44 cd44 ct44), sl44⟩) (c44 : PySem.W.codeIn K cd44 "Circle.seat_at" = true) (k44 : PySem.W.keepIn K (.ref f44) = true)
    {od45 an45 : Option Addr} {sl45 : Array (Option Value)} {oc45 kV45 dc45 pm45 cd45 ct45 : Value} {f45 : Addr}
    (a45 : PySem.W.findIn K (.ref gc_Circle) "seats_of" = some (some (.ref f45))) (i45 : PySem.W.isFn K (.ref f45) = true) (l45 : K.lookup f45 = some ⟨oc45, od45, .func (PySem.W.fnOf "seats_of" "Circle.seats_of" (defArgs s_Circle_seats_of) (defBody s_Circle_seats_of) (defScope s_Circle_seats_of) .none kV45 dc45 pm45 an45 cd45 ct45), sl45⟩) (c45 : PySem.W.codeIn K cd45 "Circle.seats_of" = true) (k45 : PySem.W.keepIn K (.ref f45) = true)
    {od46 an46 : Option Addr} {sl46 : Array (Option Value)} {oc46 kV46 dc46 pm46 cd46 ct46 : Value} {f46 : Addr}
    (a46 : PySem.W.findIn K (.ref gc_Circle) "covers" = some (some (.ref f46))) (i46 : PySem.W.isFn K (.ref f46) = true) (l46 : K.lookup f46 = some ⟨oc46, od46, .func (PySem.W.fnOf "covers" "Circle.covers" (defArgs s_Circle_covers) (defBody s_Circle_covers) (defScope s_Circle_covers) .none kV46 dc46 pm46 an46 cd46 ct46), sl46⟩) (c46 : PySem.W.codeIn K cd46 "Circle.covers" = true) (k46 : PySem.W.keepIn K (.ref f46) = true)
    {od47 an47 : Option Addr} {sl47 : Array (Option Value)} {oc47 kV47 dc47 pm47 cd47 ct47 : Value} {f47 : Addr}
    (a47 : PySem.W.findIn K (.ref gc_Circle) "standings" = some (some (.ref f47))) (i47 : PySem.W.isFn K (.ref f47) = true) (l47 : K.lookup f47 = some ⟨oc47, od47, .func (PySem.W.fnOf "standings" "Circle.standings" (defArgs s_Circle_standings) (defBody s_Circle_standings) (defScope s_Circle_standings) .none kV47 dc47 pm47 an47 cd47 ct47), sl47⟩) (c47 : PySem.W.codeIn K cd47 "Circle.standings" = true) (k47 : PySem.W.keepIn K (.ref f47) = true)
    {od48 an48 : Option Addr} {sl48 : Array (Option Value)} {oc48 kV48 dc48 pm48 cd48 ct48 : Value} {f48 : Addr}
    (a48 : PySem.W.findIn K (.ref gc_Circle) "unpaid" = some (some (.ref f48))) (i48 : PySem.W.isFn K (.ref f48) = true) (l48 : K.lookup f48 = some ⟨oc48, od48, .func (PySem.W.fnOf "unpaid" "Circle.unpaid" (defArgs s_Circle_unpaid) (defBody s_Circle_unpaid) (defScope s_Circle_unpaid) .none kV48 dc48 pm48 an48 cd48 ct48), sl48⟩) (c48 : PySem.W.codeIn K cd48 "Circle.unpaid" = true) (k48 : PySem.W.keepIn K (.ref f48) = true)
    {od49 an49 : Option Addr} {sl49 : Array (Option Value)} {oc49 kV49 dc49 pm49 cd49 ct49 : Value} {f49 : Addr}
    (a49 : PySem.W.findIn K (.ref gc_Circle) "refuse_lists" = some (some (.ref f49))) (i49 : PySem.W.isFn K (.ref f49) = true) (l49 : K.lookup f49 = some ⟨oc49, od49, .func (PySem.W.fnOf "refuse_lists" "Circle.refuse_lists" (defArgs s_Circle_refuse_lists) (defBody s_Circle_refuse_lists) (defScope s_Circle_refuse_lists) .none kV49 dc49 pm49 an49 cd49 ct49), sl49⟩) (c49 : PySem.W.codeIn K cd49 "Circle.refuse_lists" = true) (k49 : PySem.W.keepIn K (.ref f49) = true)
    {od50 an50 : Option Addr} {sl50 : Array (Option Value)} {oc50 kV50 dc50 pm50 cd50 ct50 : Value} {f50 : Addr}
    (a50 : PySem.W.findIn K (.ref gc_Circle) "let_fall" = some (some (.ref f50))) (i50 : PySem.W.isFn K (.ref f50) = true) (l50 : K.lookup f50 = some ⟨oc50, od50, .func (PySem.W.fnOf "let_fall" "Circle.let_fall" (defArgs s_Circle_let_fall) (defBody s_Circle_let_fall) (defScope s_Circle_let_fall) .none kV50 dc50 pm50 an50 cd50 ct50), sl50⟩) (c50 : PySem.W.codeIn K cd50 "Circle.let_fall" = true) (k50 : PySem.W.keepIn K (.ref f50) = true)
    {od51 an51 : Option Addr} {sl51 : Array (Option Value)} {oc51 kV51 dc51 pm51 cd51 ct51 : Value} {f51 : Addr}
    (a51 : PySem.W.findIn K (.ref gc_Circle) "leave_queue" = some (some (.ref f51))) (i51 : PySem.W.isFn K (.ref f51) = true) (l51 : K.lookup f51 = some ⟨oc51, od51, .func (PySem.W.fnOf "leave_queue" "Circle.leave_queue" (defArgs s_Circle_leave_queue) (defBody s_Circle_leave_queue) (defScope s_Circle_leave_queue) .none kV51 dc51 pm51 an51 cd51 ct51), sl51⟩) (c51 : PySem.W.codeIn K cd51 "Circle.leave_queue" = true) (k51 : PySem.W.keepIn K (.ref f51) = true)
    {od52 an52 : Option Addr} {sl52 : Array (Option Value)} {oc52 kV52 dc52 pm52 cd52 ct52 : Value} {f52 : Addr}
    (a52 : PySem.W.findIn K (.ref gc_Circle) "charge_pledges" = some (some (.ref f52))) (i52 : PySem.W.isFn K (.ref f52) = true) (l52 : K.lookup f52 = some ⟨oc52, od52, .func (PySem.W.fnOf "charge_pledges" "Circle.charge_pledges" (defArgs s_Circle_charge_pledges) (defBody s_Circle_charge_pledges) (defScope s_Circle_charge_pledges) .none kV52 dc52 pm52 an52 cd52 ct52), sl52⟩) (c52 : PySem.W.codeIn K cd52 "Circle.charge_pledges" = true) (k52 : PySem.W.keepIn K (.ref f52) = true)
    {od53 an53 : Option Addr} {sl53 : Array (Option Value)} {oc53 kV53 dc53 pm53 cd53 ct53 : Value} {f53 : Addr}
    (a53 : PySem.W.findIn K (.ref gc_Circle) "collect" = some (some (.ref f53))) (i53 : PySem.W.isFn K (.ref f53) = true) (l53 : K.lookup f53 = some ⟨oc53, od53, .func (PySem.W.fnOf "collect" "Circle.collect" (defArgs s_Circle_collect) (defBody s_Circle_collect) (defScope s_Circle_collect) .none kV53 dc53 pm53 an53 cd53 ct53), sl53⟩) (c53 : PySem.W.codeIn K cd53 "Circle.collect" = true) (k53 : PySem.W.keepIn K (.ref f53) = true)
    {od54 an54 : Option Addr} {sl54 : Array (Option Value)} {oc54 kV54 dc54 pm54 cd54 ct54 : Value} {f54 : Addr}
    (a54 : PySem.W.findIn K (.ref gc_Circle) "rest" = some (some (.ref f54))) (i54 : PySem.W.isFn K (.ref f54) = true) (l54 : K.lookup f54 = some ⟨oc54, od54, .func (PySem.W.fnOf "rest" "Circle.rest" (defArgs s_Circle_rest) (defBody s_Circle_rest) (defScope s_Circle_rest) .none kV54 dc54 pm54 an54 cd54 ct54), sl54⟩) (c54 : PySem.W.codeIn K cd54 "Circle.rest" = true) (k54 : PySem.W.keepIn K (.ref f54) = true)
    {od55 an55 : Option Addr} {sl55 : Array (Option Value)} {oc55 kV55 dc55 pm55 cd55 ct55 : Value} {f55 : Addr}
    (a55 : PySem.W.findIn K (.ref gc_Circle) "draw" = some (some (.ref f55))) (i55 : PySem.W.isFn K (.ref f55) = true) (l55 : K.lookup f55 = some ⟨oc55, od55, .func (PySem.W.fnOf "draw" "Circle.draw" (defArgs s_Circle_draw) (defBody s_Circle_draw) (defScope s_Circle_draw) .none kV55 dc55 pm55 an55 cd55 ct55), sl55⟩) (c55 : PySem.W.codeIn K cd55 "Circle.draw" = true) (k55 : PySem.W.keepIn K (.ref f55) = true)
    {od56 an56 : Option Addr} {sl56 : Array (Option Value)} {oc56 kV56 dc56 pm56 cd56 ct56 : Value} {f56 : Addr}
    (a56 : PySem.W.findIn K (.ref gc_Circle) "best_bid" = some (some (.ref f56))) (i56 : PySem.W.isFn K (.ref f56) = true) (l56 : K.lookup f56 = some ⟨oc56, od56, .func (PySem.W.fnOf "best_bid" "Circle.best_bid" (defArgs s_Circle_best_bid) (defBody s_Circle_best_bid) (defScope s_Circle_best_bid) .none kV56 dc56 pm56 an56 cd56 ct56), sl56⟩) (c56 : PySem.W.codeIn K cd56 "Circle.best_bid" = true) (k56 : PySem.W.keepIn K (.ref f56) = true)
    {od57 an57 : Option Addr} {sl57 : Array (Option Value)} {oc57 kV57 dc57 pm57 cd57 ct57 : Value} {f57 : Addr}
    (a57 : PySem.W.nsIn K mainGlobals "refuse_opening" = some (some (.ref f57))) (l57 : K.lookup f57 = some ⟨oc57, od57, .func (PySem.W.fnOf "refuse_opening" "refuse_opening" (defArgs s_refuse_opening) (defBody s_refuse_opening) (defScope s_refuse_opening) .none kV57 dc57 pm57 an57 cd57 ct57), sl57⟩) (c57 : PySem.W.codeIn K cd57 "refuse_opening" = true) (k57 : PySem.W.keepIn K (.ref f57) = true)
    {od58 an58 : Option Addr} {sl58 : Array (Option Value)} {oc58 kV58 dc58 pm58 cd58 ct58 : Value} {f58 : Addr}
    (a58 : PySem.W.nsIn K mainGlobals "first_queue" = some (some (.ref f58))) (l58 : K.lookup f58 = some ⟨oc58, od58, .func (PySem.W.fnOf "first_queue" "first_queue" (defArgs s_first_queue) (defBody s_first_queue) (defScope s_first_queue) .none kV58 dc58 pm58 an58 cd58 ct58), sl58⟩) (c58 : PySem.W.codeIn K cd58 "first_queue" = true) (k58 : PySem.W.keepIn K (.ref f58) = true)
    {od59 an59 : Option Addr} {sl59 : Array (Option Value)} {oc59 kV59 dc59 pm59 cd59 ct59 : Value} {f59 : Addr}
    (a59 : PySem.W.nsIn K mainGlobals "is_name" = some (some (.ref f59))) (l59 : K.lookup f59 = some ⟨oc59, od59, .func (PySem.W.fnOf "is_name" "is_name" (defArgs s_is_name) (defBody s_is_name) (defScope s_is_name) .none kV59 dc59 pm59 an59 cd59 ct59), sl59⟩) (c59 : PySem.W.codeIn K cd59 "is_name" = true) (k59 : PySem.W.keepIn K (.ref f59) = true)
    {od60 an60 : Option Addr} {sl60 : Array (Option Value)} {oc60 kV60 dc60 pm60 cd60 ct60 : Value} {f60 : Addr}
    (a60 : PySem.W.findIn K (.ref gc_Table) "__init__" = some (some (.ref f60))) (i60 : PySem.W.isFn K (.ref f60) = true) (l60 : K.lookup f60 = some ⟨oc60, od60, .func (PySem.W.fnOf "__init__" "Table.__init__" (defArgs s_Table___init__) (defBody s_Table___init__) (defScope s_Table___init__) .none kV60 dc60 pm60 an60 cd60 ct60), sl60⟩) (c60 : PySem.W.codeIn K cd60 "Table.__init__" = true) (k60 : PySem.W.keepIn K (.ref f60) = true)
    {od61 an61 : Option Addr} {sl61 : Array (Option Value)} {oc61 kV61 dc61 pm61 cd61 ct61 : Value} {f61 : Addr}
    (a61 : PySem.W.findIn K (.ref gc_Table) "seat_of" = some (some (.ref f61))) (i61 : PySem.W.isFn K (.ref f61) = true) (l61 : K.lookup f61 = some ⟨oc61, od61, .func (PySem.W.fnOf "seat_of" "Table.seat_of" (defArgs s_Table_seat_of) (defBody s_Table_seat_of) (defScope s_Table_seat_of) .none kV61 dc61 pm61 an61 cd61 ct61), sl61⟩) (c61 : PySem.W.codeIn K cd61 "Table.seat_of" = true) (k61 : PySem.W.keepIn K (.ref f61) = true)
    {od62 an62 : Option Addr} {sl62 : Array (Option Value)} {oc62 kV62 dc62 pm62 cd62 ct62 : Value} {f62 : Addr}
    (a62 : PySem.W.findIn K (.ref gc_Table) "state_of" = some (some (.ref f62))) (i62 : PySem.W.isFn K (.ref f62) = true) (l62 : K.lookup f62 = some ⟨oc62, od62, .func (PySem.W.fnOf "state_of" "Table.state_of" (defArgs s_Table_state_of) (defBody s_Table_state_of) (defScope s_Table_state_of) .none kV62 dc62 pm62 an62 cd62 ct62), sl62⟩) (c62 : PySem.W.codeIn K cd62 "Table.state_of" = true) (k62 : PySem.W.keepIn K (.ref f62) = true)
    {od63 an63 : Option Addr} {sl63 : Array (Option Value)} {oc63 kV63 dc63 pm63 cd63 ct63 : Value} {f63 : Addr}
    (a63 : PySem.W.findIn K (.ref gc_Table) "with_payment" = some (some (.ref f63))) (i63 : PySem.W.isFn K (.ref f63) = true) (l63 : K.lookup f63 = some ⟨oc63, od63, .func (PySem.W.fnOf "with_payment" "Table.with_payment" (defArgs s_Table_with_payment) (defBody s_Table_with_payment) (defScope s_Table_with_payment) .none kV63 dc63 pm63 an63 cd63 ct63), sl63⟩) (c63 : PySem.W.codeIn K cd63 "Table.with_payment" = true) (k63 : PySem.W.keepIn K (.ref f63) = true)
    {od64 an64 : Option Addr} {sl64 : Array (Option Value)} {oc64 kV64 dc64 pm64 cd64 ct64 : Value} {f64 : Addr}
    (a64 : PySem.W.findIn K (.ref gc_Table) "with_offer" = some (some (.ref f64))) (i64 : PySem.W.isFn K (.ref f64) = true) (l64 : K.lookup f64 = some ⟨oc64, od64, .func (PySem.W.fnOf "with_offer" "Table.with_offer" (defArgs s_Table_with_offer) (defBody s_Table_with_offer) (defScope s_Table_with_offer) .none kV64 dc64 pm64 an64 cd64 ct64), sl64⟩) (c64 : PySem.W.codeIn K cd64 "Table.with_offer" = true) (k64 : PySem.W.keepIn K (.ref f64) = true)
    {od65 an65 : Option Addr} {sl65 : Array (Option Value)} {oc65 kV65 dc65 pm65 cd65 ct65 : Value} {f65 : Addr}
    (a65 : PySem.W.findIn K (.ref gc_Table) "with_circle" = some (some (.ref f65))) (i65 : PySem.W.isFn K (.ref f65) = true) (l65 : K.lookup f65 = some ⟨oc65, od65, .func (PySem.W.fnOf "with_circle" "Table.with_circle" (defArgs s_Table_with_circle) (defBody s_Table_with_circle) (defScope s_Table_with_circle) .none kV65 dc65 pm65 an65 cd65 ct65), sl65⟩) (c65 : PySem.W.codeIn K cd65 "Table.with_circle" = true) (k65 : PySem.W.keepIn K (.ref f65) = true)
    {od66 an66 : Option Addr} {sl66 : Array (Option Value)} {oc66 kV66 dc66 pm66 cd66 ct66 : Value} {f66 : Addr}
    (a66 : PySem.W.findIn K (.ref gc_Table) "behind_round" = some (some (.ref f66))) (i66 : PySem.W.isFn K (.ref f66) = true) (l66 : K.lookup f66 = some ⟨oc66, od66, .func (PySem.W.fnOf "behind_round" "Table.behind_round" (defArgs s_Table_behind_round) (defBody s_Table_behind_round) (defScope s_Table_behind_round) .none kV66 dc66 pm66 an66 cd66 ct66), sl66⟩) (c66 : PySem.W.codeIn K cd66 "Table.behind_round" = true) (k66 : PySem.W.keepIn K (.ref f66) = true)
    {od67 an67 : Option Addr} {sl67 : Array (Option Value)} {oc67 kV67 dc67 pm67 cd67 ct67 : Value} {f67 : Addr}
    (a67 : PySem.W.findIn K (.ref gc_Table) "told_reports" = some (some (.ref f67))) (i67 : PySem.W.isFn K (.ref f67) = true) (l67 : K.lookup f67 = some ⟨oc67, od67, .func (PySem.W.fnOf "told_reports" "Table.told_reports" (defArgs s_Table_told_reports) (defBody s_Table_told_reports) (defScope s_Table_told_reports) .none kV67 dc67 pm67 an67 cd67 ct67), sl67⟩) (c67 : PySem.W.codeIn K cd67 "Table.told_reports" = true) (k67 : PySem.W.keepIn K (.ref f67) = true)
    {od68 an68 : Option Addr} {sl68 : Array (Option Value)} {oc68 kV68 dc68 pm68 cd68 ct68 : Value} {f68 : Addr}
    (a68 : PySem.W.findIn K (.ref gc_Table) "holdings" = some (some (.ref f68))) (i68 : PySem.W.isFn K (.ref f68) = true) (l68 : K.lookup f68 = some ⟨oc68, od68, .func (PySem.W.fnOf "holdings" "Table.holdings" (defArgs s_Table_holdings) (defBody s_Table_holdings) (defScope s_Table_holdings) .none kV68 dc68 pm68 an68 cd68 ct68), sl68⟩) (c68 : PySem.W.codeIn K cd68 "Table.holdings" = true) (k68 : PySem.W.keepIn K (.ref f68) = true)
    {od69 an69 : Option Addr} {sl69 : Array (Option Value)} {oc69 kV69 dc69 pm69 cd69 ct69 : Value} {f69 : Addr}
    (a69 : PySem.W.findIn K (.ref gc_Table) "payouts" = some (some (.ref f69))) (i69 : PySem.W.isFn K (.ref f69) = true) (l69 : K.lookup f69 = some ⟨oc69, od69, .func (PySem.W.fnOf "payouts" "Table.payouts" (defArgs s_Table_payouts) (defBody s_Table_payouts) (defScope s_Table_payouts) .none kV69 dc69 pm69 an69 cd69 ct69), sl69⟩) (c69 : PySem.W.codeIn K cd69 "Table.payouts" = true) (k69 : PySem.W.keepIn K (.ref f69) = true)
    {od70 an70 : Option Addr} {sl70 : Array (Option Value)} {oc70 kV70 dc70 pm70 cd70 ct70 : Value} {f70 : Addr}
    (a70 : PySem.W.nsIn K mainGlobals "opened_table" = some (some (.ref f70))) (l70 : K.lookup f70 = some ⟨oc70, od70, .func (PySem.W.fnOf "opened_table" "opened_table" (defArgs s_opened_table) (defBody s_opened_table) (defScope s_opened_table) .none kV70 dc70 pm70 an70 cd70 ct70), sl70⟩) (c70 : PySem.W.codeIn K cd70 "opened_table" = true) (k70 : PySem.W.keepIn K (.ref f70) = true)
    {od71 an71 : Option Addr} {sl71 : Array (Option Value)} {oc71 kV71 dc71 pm71 cd71 ct71 : Value} {f71 : Addr}
    (a71 : PySem.W.nsIn K mainGlobals "report_copy" = some (some (.ref f71))) (l71 : K.lookup f71 = some ⟨oc71, od71, .func (PySem.W.fnOf "report_copy" "report_copy" (defArgs s_report_copy) (defBody s_report_copy) (defScope s_report_copy) .none kV71 dc71 pm71 an71 cd71 ct71), sl71⟩) (c71 : PySem.W.codeIn K cd71 "report_copy" = true) (k71 : PySem.W.keepIn K (.ref f71) = true)
    {od72 an72 : Option Addr} {sl72 : Array (Option Value)} {oc72 kV72 dc72 pm72 cd72 ct72 : Value} {f72 : Addr}
    (a72 : PySem.W.nsIn K mainGlobals "enter" = some (some (.ref f72))) (l72 : K.lookup f72 = some ⟨oc72, od72, .func (PySem.W.fnOf "enter" "enter" (defArgs s_enter) (defBody s_enter) (defScope s_enter) .none kV72 dc72 pm72 an72 cd72 ct72), sl72⟩) (c72 : PySem.W.codeIn K cd72 "enter" = true) (k72 : PySem.W.keepIn K (.ref f72) = true)
    {od73 an73 : Option Addr} {sl73 : Array (Option Value)} {oc73 kV73 dc73 pm73 cd73 ct73 : Value} {f73 : Addr}
    (a73 : PySem.W.nsIn K mainGlobals "part" = some (some (.ref f73))) (l73 : K.lookup f73 = some ⟨oc73, od73, .func (PySem.W.fnOf "part" "part" (defArgs s_part) (defBody s_part) (defScope s_part) .none kV73 dc73 pm73 an73 cd73 ct73), sl73⟩) (c73 : PySem.W.codeIn K cd73 "part" = true) (k73 : PySem.W.keepIn K (.ref f73) = true)
    {od74 an74 : Option Addr} {sl74 : Array (Option Value)} {oc74 kV74 dc74 pm74 cd74 ct74 : Value} {f74 : Addr}
    (a74 : PySem.W.nsIn K mainGlobals "bring" = some (some (.ref f74))) (l74 : K.lookup f74 = some ⟨oc74, od74, .func (PySem.W.fnOf "bring" "bring" (defArgs s_bring) (defBody s_bring) (defScope s_bring) .none kV74 dc74 pm74 an74 cd74 ct74), sl74⟩) (c74 : PySem.W.codeIn K cd74 "bring" = true) (k74 : PySem.W.keepIn K (.ref f74) = true)
    {od75 an75 : Option Addr} {sl75 : Array (Option Value)} {oc75 kV75 dc75 pm75 cd75 ct75 : Value} {f75 : Addr}
    (a75 : PySem.W.nsIn K mainGlobals "take" = some (some (.ref f75))) (l75 : K.lookup f75 = some ⟨oc75, od75, .func (PySem.W.fnOf "take" "take" (defArgs s_take) (defBody s_take) (defScope s_take) .none kV75 dc75 pm75 an75 cd75 ct75), sl75⟩) (c75 : PySem.W.codeIn K cd75 "take" = true) (k75 : PySem.W.keepIn K (.ref f75) = true)
    {od76 an76 : Option Addr} {sl76 : Array (Option Value)} {oc76 kV76 dc76 pm76 cd76 ct76 : Value} {f76 : Addr}
    (a76 : PySem.W.nsIn K mainGlobals "found" = some (some (.ref f76))) (l76 : K.lookup f76 = some ⟨oc76, od76, .func (PySem.W.fnOf "found" "found" (defArgs s_found) (defBody s_found) (defScope s_found) .none kV76 dc76 pm76 an76 cd76 ct76), sl76⟩) (c76 : PySem.W.codeIn K cd76 "found" = true) (k76 : PySem.W.keepIn K (.ref f76) = true)
    {od77 an77 : Option Addr} {sl77 : Array (Option Value)} {oc77 kV77 dc77 pm77 cd77 ct77 : Value} {f77 : Addr}
    (a77 : PySem.W.nsIn K mainGlobals "pay" = some (some (.ref f77))) (l77 : K.lookup f77 = some ⟨oc77, od77, .func (PySem.W.fnOf "pay" "pay" (defArgs s_pay) (defBody s_pay) (defScope s_pay) .none kV77 dc77 pm77 an77 cd77 ct77), sl77⟩) (c77 : PySem.W.codeIn K cd77 "pay" = true) (k77 : PySem.W.keepIn K (.ref f77) = true)
    {od78 an78 : Option Addr} {sl78 : Array (Option Value)} {oc78 kV78 dc78 pm78 cd78 ct78 : Value} {f78 : Addr}
    (a78 : PySem.W.nsIn K mainGlobals "bid" = some (some (.ref f78))) (l78 : K.lookup f78 = some ⟨oc78, od78, .func (PySem.W.fnOf "bid" "bid" (defArgs s_bid) (defBody s_bid) (defScope s_bid) .none kV78 dc78 pm78 an78 cd78 ct78), sl78⟩) (c78 : PySem.W.codeIn K cd78 "bid" = true) (k78 : PySem.W.keepIn K (.ref f78) = true)
    {od79 an79 : Option Addr} {sl79 : Array (Option Value)} {oc79 kV79 dc79 pm79 cd79 ct79 : Value} {f79 : Addr}
    (a79 : PySem.W.nsIn K mainGlobals "lay" = some (some (.ref f79))) (l79 : K.lookup f79 = some ⟨oc79, od79, .func (PySem.W.fnOf "lay" "lay" (defArgs s_lay) (defBody s_lay) (defScope s_lay) .none kV79 dc79 pm79 an79 cd79 ct79), sl79⟩) (c79 : PySem.W.codeIn K cd79 "lay" = true) (k79 : PySem.W.keepIn K (.ref f79) = true)
    {od80 an80 : Option Addr} {sl80 : Array (Option Value)} {oc80 kV80 dc80 pm80 cd80 ct80 : Value} {f80 : Addr}
    (a80 : PySem.W.nsIn K mainGlobals "swap" = some (some (.ref f80))) (l80 : K.lookup f80 = some ⟨oc80, od80, .func (PySem.W.fnOf "swap" "swap" (defArgs s_swap) (defBody s_swap) (defScope s_swap) .none kV80 dc80 pm80 an80 cd80 ct80), sl80⟩) (c80 : PySem.W.codeIn K cd80 "swap" = true) (k80 : PySem.W.keepIn K (.ref f80) = true)
    {od81 an81 : Option Addr} {sl81 : Array (Option Value)} {oc81 kV81 dc81 pm81 cd81 ct81 : Value} {f81 : Addr}
    (a81 : PySem.W.nsIn K mainGlobals "close" = some (some (.ref f81))) (l81 : K.lookup f81 = some ⟨oc81, od81, .func (PySem.W.fnOf "close" "close" (defArgs s_close) (defBody s_close) (defScope s_close) .none kV81 dc81 pm81 an81 cd81 ct81), sl81⟩) (c81 : PySem.W.codeIn K cd81 "close" = true) (k81 : PySem.W.keepIn K (.ref f81) = true)
    {od82 an82 : Option Addr} {sl82 : Array (Option Value)} {oc82 kV82 dc82 pm82 cd82 ct82 : Value} {f82 : Addr}
    (a82 : PySem.W.nsIn K mainGlobals "refuse_ended" = some (some (.ref f82))) (l82 : K.lookup f82 = some ⟨oc82, od82, .func (PySem.W.fnOf "refuse_ended" "refuse_ended" (defArgs s_refuse_ended) (defBody s_refuse_ended) (defScope s_refuse_ended) .none kV82 dc82 pm82 an82 cd82 ct82), sl82⟩) (c82 : PySem.W.codeIn K cd82 "refuse_ended" = true) (k82 : PySem.W.keepIn K (.ref f82) = true)
    {od83 an83 : Option Addr} {sl83 : Array (Option Value)} {oc83 kV83 dc83 pm83 cd83 ct83 : Value} {f83 : Addr}
    (a83 : PySem.W.nsIn K mainGlobals "refuse_beyond" = some (some (.ref f83))) (l83 : K.lookup f83 = some ⟨oc83, od83, .func (PySem.W.fnOf "refuse_beyond" "refuse_beyond" (defArgs s_refuse_beyond) (defBody s_refuse_beyond) (defScope s_refuse_beyond) .none kV83 dc83 pm83 an83 cd83 ct83), sl83⟩) (c83 : PySem.W.codeIn K cd83 "refuse_beyond" = true) (k83 : PySem.W.keepIn K (.ref f83) = true)
    {od84 an84 : Option Addr} {sl84 : Array (Option Value)} {oc84 kV84 dc84 pm84 cd84 ct84 : Value} {f84 : Addr}
    (a84 : PySem.W.nsIn K mainGlobals "done" = some (some (.ref f84))) (l84 : K.lookup f84 = some ⟨oc84, od84, .func (PySem.W.fnOf "done" "done" (defArgs s_done) (defBody s_done) (defScope s_done) .none kV84 dc84 pm84 an84 cd84 ct84), sl84⟩) (c84 : PySem.W.codeIn K cd84 "done" = true) (k84 : PySem.W.keepIn K (.ref f84) = true)
    {od85 an85 : Option Addr} {sl85 : Array (Option Value)} {oc85 kV85 dc85 pm85 cd85 ct85 : Value} {f85 : Addr}
    (a85 : PySem.W.findIn K (.ref gc_House) "__init__" = some (some (.ref f85))) (i85 : PySem.W.isFn K (.ref f85) = true) (l85 : K.lookup f85 = some ⟨oc85, od85, .func (PySem.W.fnOf "__init__" "House.__init__" (defArgs s_House___init__) (defBody s_House___init__) (defScope s_House___init__) .none kV85 dc85 pm85 an85 cd85 ct85), sl85⟩) (c85 : PySem.W.codeIn K cd85 "House.__init__" = true) (k85 : PySem.W.keepIn K (.ref f85) = true)
    {od86 an86 : Option Addr} {sl86 : Array (Option Value)} {oc86 kV86 dc86 pm86 cd86 ct86 : Value} {f86 : Addr}
    (a86 : PySem.W.findIn K (.ref gc_House) "enter" = some (some (.ref f86))) (i86 : PySem.W.isFn K (.ref f86) = true) (l86 : K.lookup f86 = some ⟨oc86, od86, .func (PySem.W.fnOf "enter" "House.enter" (defArgs s_House_enter) (defBody s_House_enter) (defScope s_House_enter) .none kV86 dc86 pm86 an86 cd86 ct86), sl86⟩) (c86 : PySem.W.codeIn K cd86 "House.enter" = true) (k86 : PySem.W.keepIn K (.ref f86) = true)
    {od87 an87 : Option Addr} {sl87 : Array (Option Value)} {oc87 kV87 dc87 pm87 cd87 ct87 : Value} {f87 : Addr}
    (a87 : PySem.W.findIn K (.ref gc_House) "part" = some (some (.ref f87))) (i87 : PySem.W.isFn K (.ref f87) = true) (l87 : K.lookup f87 = some ⟨oc87, od87, .func (PySem.W.fnOf "part" "House.part" (defArgs s_House_part) (defBody s_House_part) (defScope s_House_part) .none kV87 dc87 pm87 an87 cd87 ct87), sl87⟩) (c87 : PySem.W.codeIn K cd87 "House.part" = true) (k87 : PySem.W.keepIn K (.ref f87) = true)
    {od88 an88 : Option Addr} {sl88 : Array (Option Value)} {oc88 kV88 dc88 pm88 cd88 ct88 : Value} {f88 : Addr}
    (a88 : PySem.W.findIn K (.ref gc_House) "bring" = some (some (.ref f88))) (i88 : PySem.W.isFn K (.ref f88) = true) (l88 : K.lookup f88 = some ⟨oc88, od88, .func (PySem.W.fnOf "bring" "House.bring" (defArgs s_House_bring) (defBody s_House_bring) (defScope s_House_bring) .none kV88 dc88 pm88 an88 cd88 ct88), sl88⟩) (c88 : PySem.W.codeIn K cd88 "House.bring" = true) (k88 : PySem.W.keepIn K (.ref f88) = true)
    {od89 an89 : Option Addr} {sl89 : Array (Option Value)} {oc89 kV89 dc89 pm89 cd89 ct89 : Value} {f89 : Addr}
    (a89 : PySem.W.findIn K (.ref gc_House) "take" = some (some (.ref f89))) (i89 : PySem.W.isFn K (.ref f89) = true) (l89 : K.lookup f89 = some ⟨oc89, od89, .func (PySem.W.fnOf "take" "House.take" (defArgs s_House_take) (defBody s_House_take) (defScope s_House_take) .none kV89 dc89 pm89 an89 cd89 ct89), sl89⟩) (c89 : PySem.W.codeIn K cd89 "House.take" = true) (k89 : PySem.W.keepIn K (.ref f89) = true)
    {od90 an90 : Option Addr} {sl90 : Array (Option Value)} {oc90 kV90 dc90 pm90 cd90 ct90 : Value} {f90 : Addr}
    (a90 : PySem.W.findIn K (.ref gc_House) "found" = some (some (.ref f90))) (i90 : PySem.W.isFn K (.ref f90) = true) (l90 : K.lookup f90 = some ⟨oc90, od90, .func (PySem.W.fnOf "found" "House.found" (defArgs s_House_found) (defBody s_House_found) (defScope s_House_found) .none kV90 dc90 pm90 an90 cd90 ct90), sl90⟩) (c90 : PySem.W.codeIn K cd90 "House.found" = true) (k90 : PySem.W.keepIn K (.ref f90) = true)
    {od91 an91 : Option Addr} {sl91 : Array (Option Value)} {oc91 kV91 dc91 pm91 cd91 ct91 : Value} {f91 : Addr}
    (a91 : PySem.W.findIn K (.ref gc_House) "pay" = some (some (.ref f91))) (i91 : PySem.W.isFn K (.ref f91) = true) (l91 : K.lookup f91 = some ⟨oc91, od91, .func (PySem.W.fnOf "pay" "House.pay" (defArgs s_House_pay) (defBody s_House_pay) (defScope s_House_pay) .none kV91 dc91 pm91 an91 cd91 ct91), sl91⟩) (c91 : PySem.W.codeIn K cd91 "House.pay" = true) (k91 : PySem.W.keepIn K (.ref f91) = true)
    {od92 an92 : Option Addr} {sl92 : Array (Option Value)} {oc92 kV92 dc92 pm92 cd92 ct92 : Value} {f92 : Addr}
    (a92 : PySem.W.findIn K (.ref gc_House) "bid" = some (some (.ref f92))) (i92 : PySem.W.isFn K (.ref f92) = true) (l92 : K.lookup f92 = some ⟨oc92, od92, .func (PySem.W.fnOf "bid" "House.bid" (defArgs s_House_bid) (defBody s_House_bid) (defScope s_House_bid) .none kV92 dc92 pm92 an92 cd92 ct92), sl92⟩) (c92 : PySem.W.codeIn K cd92 "House.bid" = true) (k92 : PySem.W.keepIn K (.ref f92) = true)
    {od93 an93 : Option Addr} {sl93 : Array (Option Value)} {oc93 kV93 dc93 pm93 cd93 ct93 : Value} {f93 : Addr}
    (a93 : PySem.W.findIn K (.ref gc_House) "lay" = some (some (.ref f93))) (i93 : PySem.W.isFn K (.ref f93) = true) (l93 : K.lookup f93 = some ⟨oc93, od93, .func (PySem.W.fnOf "lay" "House.lay" (defArgs s_House_lay) (defBody s_House_lay) (defScope s_House_lay) .none kV93 dc93 pm93 an93 cd93 ct93), sl93⟩) (c93 : PySem.W.codeIn K cd93 "House.lay" = true) (k93 : PySem.W.keepIn K (.ref f93) = true)
    {od94 an94 : Option Addr} {sl94 : Array (Option Value)} {oc94 kV94 dc94 pm94 cd94 ct94 : Value} {f94 : Addr}
    (a94 : PySem.W.findIn K (.ref gc_House) "swap" = some (some (.ref f94))) (i94 : PySem.W.isFn K (.ref f94) = true) (l94 : K.lookup f94 = some ⟨oc94, od94, .func (PySem.W.fnOf "swap" "House.swap" (defArgs s_House_swap) (defBody s_House_swap) (defScope s_House_swap) .none kV94 dc94 pm94 an94 cd94 ct94), sl94⟩) (c94 : PySem.W.codeIn K cd94 "House.swap" = true) (k94 : PySem.W.keepIn K (.ref f94) = true)
    {od95 an95 : Option Addr} {sl95 : Array (Option Value)} {oc95 kV95 dc95 pm95 cd95 ct95 : Value} {f95 : Addr}
    (a95 : PySem.W.findIn K (.ref gc_House) "close" = some (some (.ref f95))) (i95 : PySem.W.isFn K (.ref f95) = true) (l95 : K.lookup f95 = some ⟨oc95, od95, .func (PySem.W.fnOf "close" "House.close" (defArgs s_House_close) (defBody s_House_close) (defScope s_House_close) .none kV95 dc95 pm95 an95 cd95 ct95), sl95⟩) (c95 : PySem.W.codeIn K cd95 "House.close" = true) (k95 : PySem.W.keepIn K (.ref f95) = true)
    {od96 an96 : Option Addr} {sl96 : Array (Option Value)} {oc96 kV96 dc96 pm96 cd96 ct96 : Value} {f96 : Addr}
    (a96 : PySem.W.findIn K (.ref gc_House) "deed" = some (some (.ref f96))) (i96 : PySem.W.isFn K (.ref f96) = true) (l96 : K.lookup f96 = some ⟨oc96, od96, .func (PySem.W.fnOf "deed" "House.deed" (defArgs s_House_deed) (defBody s_House_deed) (defScope s_House_deed) .none kV96 dc96 pm96 an96 cd96 ct96), sl96⟩) (c96 : PySem.W.codeIn K cd96 "House.deed" = true) (k96 : PySem.W.keepIn K (.ref f96) = true)
    {od97 an97 : Option Addr} {sl97 : Array (Option Value)} {oc97 kV97 dc97 pm97 cd97 ct97 : Value} {f97 : Addr}
    (a97 : PySem.W.findIn K (.ref gc_House) "back" = some (some (.ref f97))) (i97 : PySem.W.isFn K (.ref f97) = true) (l97 : K.lookup f97 = some ⟨oc97, od97, .func (PySem.W.fnOf "back" "House.back" (defArgs s_House_back) (defBody s_House_back) (defScope s_House_back) .none kV97 dc97 pm97 an97 cd97 ct97), sl97⟩) (c97 : PySem.W.codeIn K cd97 "House.back" = true) (k97 : PySem.W.keepIn K (.ref f97) = true)
    {od98 an98 : Option Addr} {sl98 : Array (Option Value)} {oc98 kV98 dc98 pm98 cd98 ct98 : Value} {f98 : Addr}
    (a98 : PySem.W.findIn K (.ref gc_House) "again" = some (some (.ref f98))) (i98 : PySem.W.isFn K (.ref f98) = true) (l98 : K.lookup f98 = some ⟨oc98, od98, .func (PySem.W.fnOf "again" "House.again" (defArgs s_House_again) (defBody s_House_again) (defScope s_House_again) .none kV98 dc98 pm98 an98 cd98 ct98), sl98⟩) (c98 : PySem.W.codeIn K cd98 "House.again" = true) (k98 : PySem.W.keepIn K (.ref f98) = true)
    {od99 an99 : Option Addr} {sl99 : Array (Option Value)} {oc99 kV99 dc99 pm99 cd99 ct99 : Value} {f99 : Addr}
    (a99 : PySem.W.findIn K (.ref gc_House) "members" = some (some (.ref f99))) (i99 : PySem.W.isFn K (.ref f99) = true) (l99 : K.lookup f99 = some ⟨oc99, od99, .func (PySem.W.fnOf "members" "House.members" (defArgs s_House_members) (defBody s_House_members) (defScope s_House_members) .none kV99 dc99 pm99 an99 cd99 ct99), sl99⟩) (c99 : PySem.W.codeIn K cd99 "House.members" = true) (k99 : PySem.W.keepIn K (.ref f99) = true)
    {od100 an100 : Option Addr} {sl100 : Array (Option Value)} {oc100 kV100 dc100 pm100 cd100 ct100 : Value} {f100 : Addr}
    (a100 : PySem.W.findIn K (.ref gc_House) "purse" = some (some (.ref f100))) (i100 : PySem.W.isFn K (.ref f100) = true) (l100 : K.lookup f100 = some ⟨oc100, od100, .func (PySem.W.fnOf "purse" "House.purse" (defArgs s_House_purse) (defBody s_House_purse) (defScope s_House_purse) .none kV100 dc100 pm100 an100 cd100 ct100), sl100⟩) (c100 : PySem.W.codeIn K cd100 "House.purse" = true) (k100 : PySem.W.keepIn K (.ref f100) = true)
    {od101 an101 : Option Addr} {sl101 : Array (Option Value)} {oc101 kV101 dc101 pm101 cd101 ct101 : Value} {f101 : Addr}
    (a101 : PySem.W.findIn K (.ref gc_House) "circles" = some (some (.ref f101))) (i101 : PySem.W.isFn K (.ref f101) = true) (l101 : K.lookup f101 = some ⟨oc101, od101, .func (PySem.W.fnOf "circles" "House.circles" (defArgs s_House_circles) (defBody s_House_circles) (defScope s_House_circles) .none kV101 dc101 pm101 an101 cd101 ct101), sl101⟩) (c101 : PySem.W.codeIn K cd101 "House.circles" = true) (k101 : PySem.W.keepIn K (.ref f101) = true)
    {od102 an102 : Option Addr} {sl102 : Array (Option Value)} {oc102 kV102 dc102 pm102 cd102 ct102 : Value} {f102 : Addr}
    (a102 : PySem.W.findIn K (.ref gc_House) "names" = some (some (.ref f102))) (i102 : PySem.W.isFn K (.ref f102) = true) (l102 : K.lookup f102 = some ⟨oc102, od102, .func (PySem.W.fnOf "names" "House.names" (defArgs s_House_names) (defBody s_House_names) (defScope s_House_names) .none kV102 dc102 pm102 an102 cd102 ct102), sl102⟩) (c102 : PySem.W.codeIn K cd102 "House.names" = true) (k102 : PySem.W.keepIn K (.ref f102) = true)
    {od103 an103 : Option Addr} {sl103 : Array (Option Value)} {oc103 kV103 dc103 pm103 cd103 ct103 : Value} {f103 : Addr}
    (a103 : PySem.W.findIn K (.ref gc_House) "turn" = some (some (.ref f103))) (i103 : PySem.W.isFn K (.ref f103) = true) (l103 : K.lookup f103 = some ⟨oc103, od103, .func (PySem.W.fnOf "turn" "House.turn" (defArgs s_House_turn) (defBody s_House_turn) (defScope s_House_turn) .none kV103 dc103 pm103 an103 cd103 ct103), sl103⟩) (c103 : PySem.W.codeIn K cd103 "House.turn" = true) (k103 : PySem.W.keepIn K (.ref f103) = true)
    {od104 an104 : Option Addr} {sl104 : Array (Option Value)} {oc104 kV104 dc104 pm104 cd104 ct104 : Value} {f104 : Addr}
    (a104 : PySem.W.findIn K (.ref gc_House) "rests" = some (some (.ref f104))) (i104 : PySem.W.isFn K (.ref f104) = true) (l104 : K.lookup f104 = some ⟨oc104, od104, .func (PySem.W.fnOf "rests" "House.rests" (defArgs s_House_rests) (defBody s_House_rests) (defScope s_House_rests) .none kV104 dc104 pm104 an104 cd104 ct104), sl104⟩) (c104 : PySem.W.codeIn K cd104 "House.rests" = true) (k104 : PySem.W.keepIn K (.ref f104) = true)
    {od105 an105 : Option Addr} {sl105 : Array (Option Value)} {oc105 kV105 dc105 pm105 cd105 ct105 : Value} {f105 : Addr}
    (a105 : PySem.W.findIn K (.ref gc_House) "queue" = some (some (.ref f105))) (i105 : PySem.W.isFn K (.ref f105) = true) (l105 : K.lookup f105 = some ⟨oc105, od105, .func (PySem.W.fnOf "queue" "House.queue" (defArgs s_House_queue) (defBody s_House_queue) (defScope s_House_queue) .none kV105 dc105 pm105 an105 cd105 ct105), sl105⟩) (c105 : PySem.W.codeIn K cd105 "House.queue" = true) (k105 : PySem.W.keepIn K (.ref f105) = true)
    {od106 an106 : Option Addr} {sl106 : Array (Option Value)} {oc106 kV106 dc106 pm106 cd106 ct106 : Value} {f106 : Addr}
    (a106 : PySem.W.findIn K (.ref gc_House) "paid" = some (some (.ref f106))) (i106 : PySem.W.isFn K (.ref f106) = true) (l106 : K.lookup f106 = some ⟨oc106, od106, .func (PySem.W.fnOf "paid" "House.paid" (defArgs s_House_paid) (defBody s_House_paid) (defScope s_House_paid) .none kV106 dc106 pm106 an106 cd106 ct106), sl106⟩) (c106 : PySem.W.codeIn K cd106 "House.paid" = true) (k106 : PySem.W.keepIn K (.ref f106) = true)
    {od107 an107 : Option Addr} {sl107 : Array (Option Value)} {oc107 kV107 dc107 pm107 cd107 ct107 : Value} {f107 : Addr}
    (a107 : PySem.W.findIn K (.ref gc_House) "bids" = some (some (.ref f107))) (i107 : PySem.W.isFn K (.ref f107) = true) (l107 : K.lookup f107 = some ⟨oc107, od107, .func (PySem.W.fnOf "bids" "House.bids" (defArgs s_House_bids) (defBody s_House_bids) (defScope s_House_bids) .none kV107 dc107 pm107 an107 cd107 ct107), sl107⟩) (c107 : PySem.W.codeIn K cd107 "House.bids" = true) (k107 : PySem.W.keepIn K (.ref f107) = true)
    {od108 an108 : Option Addr} {sl108 : Array (Option Value)} {oc108 kV108 dc108 pm108 cd108 ct108 : Value} {f108 : Addr}
    (a108 : PySem.W.findIn K (.ref gc_House) "reports" = some (some (.ref f108))) (i108 : PySem.W.isFn K (.ref f108) = true) (l108 : K.lookup f108 = some ⟨oc108, od108, .func (PySem.W.fnOf "reports" "House.reports" (defArgs s_House_reports) (defBody s_House_reports) (defScope s_House_reports) .none kV108 dc108 pm108 an108 cd108 ct108), sl108⟩) (c108 : PySem.W.codeIn K cd108 "House.reports" = true) (k108 : PySem.W.keepIn K (.ref f108) = true)
    {od109 an109 : Option Addr} {sl109 : Array (Option Value)} {oc109 kV109 dc109 pm109 cd109 ct109 : Value} {f109 : Addr}
    (a109 : PySem.W.findIn K (.ref gc_House) "held" = some (some (.ref f109))) (i109 : PySem.W.isFn K (.ref f109) = true) (l109 : K.lookup f109 = some ⟨oc109, od109, .func (PySem.W.fnOf "held" "House.held" (defArgs s_House_held) (defBody s_House_held) (defScope s_House_held) .none kV109 dc109 pm109 an109 cd109 ct109), sl109⟩) (c109 : PySem.W.codeIn K cd109 "House.held" = true) (k109 : PySem.W.keepIn K (.ref f109) = true)
    {od110 an110 : Option Addr} {sl110 : Array (Option Value)} {oc110 kV110 dc110 pm110 cd110 ct110 : Value} {f110 : Addr}
    (a110 : PySem.W.findIn K (.ref gc_House) "seat" = some (some (.ref f110))) (i110 : PySem.W.isFn K (.ref f110) = true) (l110 : K.lookup f110 = some ⟨oc110, od110, .func (PySem.W.fnOf "seat" "House.seat" (defArgs s_House_seat) (defBody s_House_seat) (defScope s_House_seat) .none kV110 dc110 pm110 an110 cd110 ct110), sl110⟩) (c110 : PySem.W.codeIn K cd110 "House.seat" = true) (k110 : PySem.W.keepIn K (.ref f110) = true)
    {od111 an111 : Option Addr} {sl111 : Array (Option Value)} {oc111 kV111 dc111 pm111 cd111 ct111 : Value} {f111 : Addr}
    (a111 : PySem.W.findIn K (.ref gc_House) "coins" = some (some (.ref f111))) (i111 : PySem.W.isFn K (.ref f111) = true) (l111 : K.lookup f111 = some ⟨oc111, od111, .func (PySem.W.fnOf "coins" "House.coins" (defArgs s_House_coins) (defBody s_House_coins) (defScope s_House_coins) .none kV111 dc111 pm111 an111 cd111 ct111), sl111⟩) (c111 : PySem.W.codeIn K cd111 "House.coins" = true) (k111 : PySem.W.keepIn K (.ref f111) = true)
    {od112 an112 : Option Addr} {sl112 : Array (Option Value)} {oc112 kV112 dc112 pm112 cd112 ct112 : Value} {f112 : Addr}
    (a112 : PySem.W.findIn K (.ref gc_House) "twin" = some (some (.ref f112))) (i112 : PySem.W.isFn K (.ref f112) = true) (l112 : K.lookup f112 = some ⟨oc112, od112, .func (PySem.W.fnOf "twin" "House.twin" (defArgs s_House_twin) (defBody s_House_twin) (defScope s_House_twin) .none kV112 dc112 pm112 an112 cd112 ct112), sl112⟩) (c112 : PySem.W.codeIn K cd112 "House.twin" = true) (k112 : PySem.W.keepIn K (.ref f112) = true)
    {od113 an113 : Option Addr} {sl113 : Array (Option Value)} {oc113 kV113 dc113 pm113 cd113 ct113 : Value} {f113 : Addr}
    (a113 : PySem.W.findIn K (.ref gc_House) "keep_done" = some (some (.ref f113))) (i113 : PySem.W.isFn K (.ref f113) = true) (l113 : K.lookup f113 = some ⟨oc113, od113, .func (PySem.W.fnOf "keep_done" "House.keep_done" (defArgs s_House_keep_done) (defBody s_House_keep_done) (defScope s_House_keep_done) .none kV113 dc113 pm113 an113 cd113 ct113), sl113⟩) (c113 : PySem.W.codeIn K cd113 "House.keep_done" = true) (k113 : PySem.W.keepIn K (.ref f113) = true)
    {od114 an114 : Option Addr} {sl114 : Array (Option Value)} {oc114 kV114 dc114 pm114 cd114 ct114 : Value} {f114 : Addr}
    (a114 : PySem.W.nsIn K mainGlobals "_law_draws" = some (some (.ref f114))) (l114 : K.lookup f114 = some ⟨oc114, od114, .func (PySem.W.fnOf "_law_draws" "_law_draws" (defArgs s__law_draws) (defBody s__law_draws) (defScope s__law_draws) .none kV114 dc114 pm114 an114 cd114 ct114), sl114⟩) (c114 : PySem.W.codeIn K cd114 "_law_draws" = true) (k114 : PySem.W.keepIn K (.ref f114) = true)
    {od115 an115 : Option Addr} {sl115 : Array (Option Value)} {oc115 kV115 dc115 pm115 cd115 ct115 : Value} {f115 : Addr}
    (a115 : PySem.W.nsIn K mainGlobals "_law_same" = some (some (.ref f115))) (l115 : K.lookup f115 = some ⟨oc115, od115, .func (PySem.W.fnOf "_law_same" "_law_same" (defArgs s__law_same) (defBody s__law_same) (defScope s__law_same) .none kV115 dc115 pm115 an115 cd115 ct115), sl115⟩) (c115 : PySem.W.codeIn K cd115 "_law_same" = true) (k115 : PySem.W.keepIn K (.ref f115) = true)
    {od116 an116 : Option Addr} {sl116 : Array (Option Value)} {oc116 kV116 dc116 pm116 cd116 ct116 : Value} {f116 : Addr}
    (a116 : PySem.W.nsIn K mainGlobals "_law_names" = some (some (.ref f116))) (l116 : K.lookup f116 = some ⟨oc116, od116, .func (PySem.W.fnOf "_law_names" "_law_names" (defArgs s__law_names) (defBody s__law_names) (defScope s__law_names) .none kV116 dc116 pm116 an116 cd116 ct116), sl116⟩) (c116 : PySem.W.codeIn K cd116 "_law_names" = true) (k116 : PySem.W.keepIn K (.ref f116) = true)
    {od117 an117 : Option Addr} {sl117 : Array (Option Value)} {oc117 kV117 dc117 pm117 cd117 ct117 : Value} {f117 : Addr}
    (a117 : PySem.W.nsIn K mainGlobals "_law_is_name" = some (some (.ref f117))) (l117 : K.lookup f117 = some ⟨oc117, od117, .func (PySem.W.fnOf "_law_is_name" "_law_is_name" (defArgs s__law_is_name) (defBody s__law_is_name) (defScope s__law_is_name) .none kV117 dc117 pm117 an117 cd117 ct117), sl117⟩) (c117 : PySem.W.codeIn K cd117 "_law_is_name" = true) (k117 : PySem.W.keepIn K (.ref f117) = true)
    {od118 an118 : Option Addr} {sl118 : Array (Option Value)} {oc118 kV118 dc118 pm118 cd118 ct118 : Value} {f118 : Addr}
    (a118 : PySem.W.nsIn K mainGlobals "_law_member_deed" = some (some (.ref f118))) (l118 : K.lookup f118 = some ⟨oc118, od118, .func (PySem.W.fnOf "_law_member_deed" "_law_member_deed" (defArgs s__law_member_deed) (defBody s__law_member_deed) (defScope s__law_member_deed) .none kV118 dc118 pm118 an118 cd118 ct118), sl118⟩) (c118 : PySem.W.codeIn K cd118 "_law_member_deed" = true) (k118 : PySem.W.keepIn K (.ref f118) = true)
    {od119 an119 : Option Addr} {sl119 : Array (Option Value)} {oc119 kV119 dc119 pm119 cd119 ct119 : Value} {f119 : Addr}
    (a119 : PySem.W.nsIn K mainGlobals "_law_table_due" = some (some (.ref f119))) (l119 : K.lookup f119 = some ⟨oc119, od119, .func (PySem.W.fnOf "_law_table_due" "_law_table_due" (defArgs s__law_table_due) (defBody s__law_table_due) (defScope s__law_table_due) .none kV119 dc119 pm119 an119 cd119 ct119), sl119⟩) (c119 : PySem.W.codeIn K cd119 "_law_table_due" = true) (k119 : PySem.W.keepIn K (.ref f119) = true)
    {od120 an120 : Option Addr} {sl120 : Array (Option Value)} {oc120 kV120 dc120 pm120 cd120 ct120 : Value} {f120 : Addr}
    (a120 : PySem.W.nsIn K mainGlobals "_law_due" = some (some (.ref f120))) (l120 : K.lookup f120 = some ⟨oc120, od120, .func (PySem.W.fnOf "_law_due" "_law_due" (defArgs s__law_due) (defBody s__law_due) (defScope s__law_due) .none kV120 dc120 pm120 an120 cd120 ct120), sl120⟩) (c120 : PySem.W.codeIn K cd120 "_law_due" = true) (k120 : PySem.W.keepIn K (.ref f120) = true)
    {od121 an121 : Option Addr} {sl121 : Array (Option Value)} {oc121 kV121 dc121 pm121 cd121 ct121 : Value} {f121 : Addr}
    (a121 : PySem.W.nsIn K mainGlobals "_law_named" = some (some (.ref f121))) (l121 : K.lookup f121 = some ⟨oc121, od121, .func (PySem.W.fnOf "_law_named" "_law_named" (defArgs s__law_named) (defBody s__law_named) (defScope s__law_named) .none kV121 dc121 pm121 an121 cd121 ct121), sl121⟩) (c121 : PySem.W.codeIn K cd121 "_law_named" = true) (k121 : PySem.W.keepIn K (.ref f121) = true)
    {od122 an122 : Option Addr} {sl122 : Array (Option Value)} {oc122 kV122 dc122 pm122 cd122 ct122 : Value} {f122 : Addr}
    (a122 : PySem.W.nsIn K mainGlobals "_law_done" = some (some (.ref f122))) (l122 : K.lookup f122 = some ⟨oc122, od122, .func (PySem.W.fnOf "_law_done" "_law_done" (defArgs s__law_done) (defBody s__law_done) (defScope s__law_done) .none kV122 dc122 pm122 an122 cd122 ct122), sl122⟩) (c122 : PySem.W.codeIn K cd122 "_law_done" = true) (k122 : PySem.W.keepIn K (.ref f122) = true)
    {od123 an123 : Option Addr} {sl123 : Array (Option Value)} {oc123 kV123 dc123 pm123 cd123 ct123 : Value} {f123 : Addr}
    (a123 : PySem.W.nsIn K mainGlobals "_law_marks" = some (some (.ref f123))) (l123 : K.lookup f123 = some ⟨oc123, od123, .func (PySem.W.fnOf "_law_marks" "_law_marks" (defArgs s__law_marks) (defBody s__law_marks) (defScope s__law_marks) .none kV123 dc123 pm123 an123 cd123 ct123), sl123⟩) (c123 : PySem.W.codeIn K cd123 "_law_marks" = true) (k123 : PySem.W.keepIn K (.ref f123) = true)
    {od124 an124 : Option Addr} {sl124 : Array (Option Value)} {oc124 kV124 dc124 pm124 cd124 ct124 : Value} {f124 : Addr}
    (a124 : PySem.W.nsIn K mainGlobals "_law_table_seen" = some (some (.ref f124))) (l124 : K.lookup f124 = some ⟨oc124, od124, .func (PySem.W.fnOf "_law_table_seen" "_law_table_seen" (defArgs s__law_table_seen) (defBody s__law_table_seen) (defScope s__law_table_seen) .none kV124 dc124 pm124 an124 cd124 ct124), sl124⟩) (c124 : PySem.W.codeIn K cd124 "_law_table_seen" = true) (k124 : PySem.W.keepIn K (.ref f124) = true)
    {od125 an125 : Option Addr} {sl125 : Array (Option Value)} {oc125 kV125 dc125 pm125 cd125 ct125 : Value} {f125 : Addr}
    (a125 : PySem.W.nsIn K mainGlobals "_law_seen" = some (some (.ref f125))) (l125 : K.lookup f125 = some ⟨oc125, od125, .func (PySem.W.fnOf "_law_seen" "_law_seen" (defArgs s__law_seen) (defBody s__law_seen) (defScope s__law_seen) .none kV125 dc125 pm125 an125 cd125 ct125), sl125⟩) (c125 : PySem.W.codeIn K cd125 "_law_seen" = true) (k125 : PySem.W.keepIn K (.ref f125) = true)
    {od126 an126 : Option Addr} {sl126 : Array (Option Value)} {oc126 kV126 dc126 pm126 cd126 ct126 : Value} {f126 : Addr}
    (a126 : PySem.W.nsIn K mainGlobals "_law_missing" = some (some (.ref f126))) (l126 : K.lookup f126 = some ⟨oc126, od126, .func (PySem.W.fnOf "_law_missing" "_law_missing" (defArgs s__law_missing) (defBody s__law_missing) (defScope s__law_missing) .none kV126 dc126 pm126 an126 cd126 ct126), sl126⟩) (c126 : PySem.W.codeIn K cd126 "_law_missing" = true) (k126 : PySem.W.keepIn K (.ref f126) = true)
    {od127 an127 : Option Addr} {sl127 : Array (Option Value)} {oc127 kV127 dc127 pm127 cd127 ct127 : Value} {f127 : Addr}
    (a127 : PySem.W.nsIn K mainGlobals "law" = some (some (.ref f127))) (l127 : K.lookup f127 = some ⟨oc127, od127, .func (PySem.W.fnOf "law" "law" (defArgs s_law) (defBody s_law) (defScope s_law) .none kV127 dc127 pm127 an127 cd127 ct127), sl127⟩) (c127 : PySem.W.codeIn K cd127 "law" = true) (k127 : PySem.W.keepIn K (.ref f127) = true)
    (pg_Books : PySem.W.plainGet K gc_Books Str.empty = true)
    (hd_Books : PySem.W.hasDictIn K gc_Books = true)
    (po_Books : PySem.W.plainOver K gc_Books = true)
    (sa_Books : PySem.W.findIn K (.ref gc_Books) "__setattr__" = some (some (.builtin "object.__setattr__")))
    (mi_Books : PySem.W.makesIn K gc_Books = true)
    (kc_Books : PySem.W.keepIn K (.ref gc_Books) = true)
    (na_Books_shelves : PySem.W.findIn K (.ref gc_Books) "shelves" = some none)
    (na_Books_trail : PySem.W.findIn K (.ref gc_Books) "trail" = some none)
    (pg_Seat : PySem.W.plainGet K gc_Seat Str.empty = true)
    (hd_Seat : PySem.W.hasDictIn K gc_Seat = true)
    (po_Seat : PySem.W.plainOver K gc_Seat = true)
    (sa_Seat : PySem.W.findIn K (.ref gc_Seat) "__setattr__" = some (some (.builtin "object.__setattr__")))
    (mi_Seat : PySem.W.makesIn K gc_Seat = true)
    (kc_Seat : PySem.W.keepIn K (.ref gc_Seat) = true)
    (na_Seat_state : PySem.W.findIn K (.ref gc_Seat) "state" = some none)
    (na_Seat_since : PySem.W.findIn K (.ref gc_Seat) "since" = some none)
    (na_Seat_pledge : PySem.W.findIn K (.ref gc_Seat) "pledge" = some none)
    (na_Seat_given : PySem.W.findIn K (.ref gc_Seat) "given" = some none)
    (na_Seat_drawn : PySem.W.findIn K (.ref gc_Seat) "drawn" = some none)
    (na_Seat_shared : PySem.W.findIn K (.ref gc_Seat) "shared" = some none)
    (na_Seat_pledge_stakes : PySem.W.findIn K (.ref gc_Seat) "pledge_stakes" = some none)
    (pg_Circle : PySem.W.plainGet K gc_Circle Str.empty = true)
    (hd_Circle : PySem.W.hasDictIn K gc_Circle = true)
    (po_Circle : PySem.W.plainOver K gc_Circle = true)
    (sa_Circle : PySem.W.findIn K (.ref gc_Circle) "__setattr__" = some (some (.builtin "object.__setattr__")))
    (mi_Circle : PySem.W.makesIn K gc_Circle = true)
    (kc_Circle : PySem.W.keepIn K (.ref gc_Circle) = true)
    (na_Circle_line : PySem.W.findIn K (.ref gc_Circle) "line" = some none)
    (na_Circle_stake : PySem.W.findIn K (.ref gc_Circle) "stake" = some none)
    (na_Circle_first_pledges : PySem.W.findIn K (.ref gc_Circle) "first_pledges" = some none)
    (na_Circle_wishes : PySem.W.findIn K (.ref gc_Circle) "wishes" = some none)
    (na_Circle_bidding : PySem.W.findIn K (.ref gc_Circle) "bidding" = some none)
    (na_Circle_seats : PySem.W.findIn K (.ref gc_Circle) "seats" = some none)
    (na_Circle_open_round : PySem.W.findIn K (.ref gc_Circle) "open_round" = some none)
    (na_Circle_rests_due : PySem.W.findIn K (.ref gc_Circle) "rests_due" = some none)
    (na_Circle_chest : PySem.W.findIn K (.ref gc_Circle) "chest" = some none)
    (na_Circle_flows : PySem.W.findIn K (.ref gc_Circle) "flows" = some none)
    (pg_Table : PySem.W.plainGet K gc_Table Str.empty = true)
    (hd_Table : PySem.W.hasDictIn K gc_Table = true)
    (po_Table : PySem.W.plainOver K gc_Table = true)
    (sa_Table : PySem.W.findIn K (.ref gc_Table) "__setattr__" = some (some (.builtin "object.__setattr__")))
    (mi_Table : PySem.W.makesIn K gc_Table = true)
    (kc_Table : PySem.W.keepIn K (.ref gc_Table) = true)
    (na_Table_sitters : PySem.W.findIn K (.ref gc_Table) "sitters" = some none)
    (na_Table_circle : PySem.W.findIn K (.ref gc_Table) "circle" = some none)
    (na_Table_payments : PySem.W.findIn K (.ref gc_Table) "payments" = some none)
    (na_Table_offers : PySem.W.findIn K (.ref gc_Table) "offers" = some none)
    (na_Table_closed : PySem.W.findIn K (.ref gc_Table) "closed" = some none)
    (pg_House : PySem.W.plainGet K gc_House Str.empty = true)
    (hd_House : PySem.W.hasDictIn K gc_House = true)
    (po_House : PySem.W.plainOver K gc_House = true)
    (sa_House : PySem.W.findIn K (.ref gc_House) "__setattr__" = some (some (.builtin "object.__setattr__")))
    (mi_House : PySem.W.makesIn K gc_House = true)
    (kc_House : PySem.W.keepIn K (.ref gc_House) = true)
    (na_House_books : PySem.W.findIn K (.ref gc_House) "books" = some none)
    (na_House_kept : PySem.W.findIn K (.ref gc_House) "kept" = some none)
    (na_House_undone : PySem.W.findIn K (.ref gc_House) "undone" = some none)
    (z0 : PySem.W.nsIn K mainGlobals "abs" = some none)
    (z1 : PySem.W.nsIn K mainGlobals "all" = some none)
    (z2 : PySem.W.nsIn K mainGlobals "any" = some none)
    (z3 : PySem.W.nsIn K mainGlobals "bool" = some none)
    (z4 : PySem.W.nsIn K mainGlobals "dict" = some none)
    (z5 : PySem.W.nsIn K mainGlobals "enumerate" = some none)
    (z6 : PySem.W.nsIn K mainGlobals "int" = some none)
    (z7 : PySem.W.nsIn K mainGlobals "isinstance" = some none)
    (z8 : PySem.W.nsIn K mainGlobals "len" = some none)
    (z9 : PySem.W.nsIn K mainGlobals "list" = some none)
    (z10 : PySem.W.nsIn K mainGlobals "max" = some none)
    (z11 : PySem.W.nsIn K mainGlobals "min" = some none)
    (z12 : PySem.W.nsIn K mainGlobals "range" = some none)
    (z13 : PySem.W.nsIn K mainGlobals "set" = some none)
    (z14 : PySem.W.nsIn K mainGlobals "sorted" = some none)
    (z15 : PySem.W.nsIn K mainGlobals "str" = some none)
    (z16 : PySem.W.nsIn K mainGlobals "sum" = some none)
    (z17 : PySem.W.nsIn K mainGlobals "tuple" = some none)
    (z18 : PySem.W.nsIn K mainGlobals "zip" = some none)
    {tk0 : Tok} (n0 : PySem.W.nsIn K mainGlobals "MEMBERS" = some (some (.str "members" tk0)))
    {tk1 : Tok} (n1 : PySem.W.nsIn K mainGlobals "TABLES" = some (some (.str "tables" tk1)))
    {tk2 : Tok} (n2 : PySem.W.nsIn K mainGlobals "SUMS" = some (some (.str "sums" tk2)))
    {tk3 : Tok} (n3 : PySem.W.nsIn K mainGlobals "BROUGHT" = some (some (.str "brought" tk3)))
    {tk4 : Tok} (n4 : PySem.W.nsIn K mainGlobals "MOST_STAKE" = some (some (.int 1000000 tk4)))
    {tk5 : Tok} (n5 : PySem.W.nsIn K mainGlobals "LEAST_SEATS" = some (some (.int 2 tk5)))
    {tk6 : Tok} (n6 : PySem.W.nsIn K mainGlobals "MOST_SEATS" = some (some (.int 20 tk6)))
    {tk7 : Tok} (n7 : PySem.W.nsIn K mainGlobals "MOST_COINS" = some (some (.int 1000000000 tk7)))
    {tk8 : Tok} (n8 : PySem.W.nsIn K mainGlobals "WAITS" = some (some (.str "waits" tk8)))
    {tk9 : Tok} (n9 : PySem.W.nsIn K mainGlobals "DREW" = some (some (.str "drew" tk9)))
    {tk10 : Tok} (n10 : PySem.W.nsIn K mainGlobals "FELL" = some (some (.str "fell" tk10)))
    {tk11 : Tok} (n11 : PySem.W.nsIn K mainGlobals "LETTERS" = some (some (.str "abcdefghijklmnopqrstuvwxyz" tk11)))
    {tk12 : Tok} (n12 : PySem.W.nsIn K mainGlobals "LONGEST_NAME" = some (some (.int 12 tk12)))
    (cc0 : cd9 = .ref 326)
    {fc0 : Addr}
    (x1 : PySem.W.nsIn K mainGlobals "SusuError" = some (some (.ref fc0)))
    {fc2 : Addr}
    (x3 : PySem.W.nsIn K mainGlobals "BadName" = some (some (.ref fc2)))
    {fc4 : Addr}
    (x5 : PySem.W.nsIn K mainGlobals "BadNumber" = some (some (.ref fc4)))
    {fc6 : Addr}
    (x7 : PySem.W.nsIn K mainGlobals "Known" = some (some (.ref fc6)))
    {fc8 : Addr}
    (x9 : PySem.W.nsIn K mainGlobals "Unknown" = some (some (.ref fc8)))
    {fc10 : Addr}
    (x11 : PySem.W.nsIn K mainGlobals "Twice" = some (some (.ref fc10)))
    {fc12 : Addr}
    (x13 : PySem.W.nsIn K mainGlobals "Seated" = some (some (.ref fc12)))
    {fc14 : Addr}
    (x15 : PySem.W.nsIn K mainGlobals "Holding" = some (some (.ref fc14)))
    {fc16 : Addr}
    (x17 : PySem.W.nsIn K mainGlobals "Short" = some (some (.ref fc16)))
    {fc18 : Addr}
    (x19 : PySem.W.nsIn K mainGlobals "NoSeat" = some (some (.ref fc18)))
    {fc20 : Addr}
    (x21 : PySem.W.nsIn K mainGlobals "Ended" = some (some (.ref fc20)))
    {fc22 : Addr}
    (x23 : PySem.W.nsIn K mainGlobals "Fell" = some (some (.ref fc22)))
    {fc24 : Addr}
    (x25 : PySem.W.nsIn K mainGlobals "Paid" = some (some (.ref fc24)))
    {fc26 : Addr}
    (x27 : PySem.W.nsIn K mainGlobals "NoBids" = some (some (.ref fc26)))
    {fc28 : Addr}
    (x29 : PySem.W.nsIn K mainGlobals "NotWaiting" = some (some (.ref fc28)))
    {fc30 : Addr}
    (x31 : PySem.W.nsIn K mainGlobals "Uncovered" = some (some (.ref fc30)))
    {fc32 : Addr}
    (x33 : PySem.W.nsIn K mainGlobals "NoOrder" = some (some (.ref fc32)))
    (x34 : PySem.W.excIn K fc2 vErr "ValueError.__new__" = true)
    (x35 : PySem.W.keepIn K (.ref fc2) = true)
    (x36_0 : PySem.W.findIn K (.ref fc2) "__getattribute__" = some (some (.builtin "BaseException.__getattribute__")))
    (x36_1 : PySem.W.findIn K (.ref fc2) "__getattr__" = some none)
    (x36_2 : PySem.W.subIn K (.ref fc2) (.type "BaseException") = some true)
    (x36_3 : PySem.W.hasDictIn K fc2 = true)
    (x36_4 : PySem.W.findIn K (.ref fc2) "__class__" = some (some (.builtin "object.__class__")))
    (x36_5 : PySem.W.specialIn K (.builtin "object.__class__") "__get__" = some (some (.builtin "getset_descriptor.__get__")))
    (x36_6 : PySem.W.takesIn K (.builtin "object.__class__") = some true)
    (x36_7 : PySem.W.mroIn K fc2 (.type "object") = some true)
    (x37 : PySem.W.subIn K (.ref fc2) (.ref fc0) = some true)
    (x38 : PySem.W.subIn K (.ref fc2) (.ref fc8) = some false)
    (x39 : PySem.W.kitOne K (.ref fc2) (.ref fc2) = some true)
    (x40 : PySem.W.kitOne K (.ref fc2) (.ref fc4) = some false)
    (x41 : PySem.W.kitOne K (.ref fc2) (.ref fc6) = some false)
    (x42 : PySem.W.kitOne K (.ref fc2) (.ref fc8) = some false)
    (x43 : PySem.W.kitOne K (.ref fc2) (.ref fc10) = some false)
    (x44 : PySem.W.kitOne K (.ref fc2) (.ref fc12) = some false)
    (x45 : PySem.W.kitOne K (.ref fc2) (.ref fc14) = some false)
    (x46 : PySem.W.kitOne K (.ref fc2) (.ref fc16) = some false)
    (x47 : PySem.W.kitOne K (.ref fc2) (.ref fc18) = some false)
    (x48 : PySem.W.kitOne K (.ref fc2) (.ref fc20) = some false)
    (x49 : PySem.W.kitOne K (.ref fc2) (.ref fc22) = some false)
    (x50 : PySem.W.kitOne K (.ref fc2) (.ref fc24) = some false)
    (x51 : PySem.W.kitOne K (.ref fc2) (.ref fc26) = some false)
    (x52 : PySem.W.kitOne K (.ref fc2) (.ref fc28) = some false)
    (x53 : PySem.W.kitOne K (.ref fc2) (.ref fc30) = some false)
    (x54 : PySem.W.kitOne K (.ref fc2) (.ref fc32) = some false)
    (x55 : PySem.W.excIn K fc4 vErr "ValueError.__new__" = true)
    (x56 : PySem.W.keepIn K (.ref fc4) = true)
    (x57_0 : PySem.W.findIn K (.ref fc4) "__getattribute__" = some (some (.builtin "BaseException.__getattribute__")))
    (x57_1 : PySem.W.findIn K (.ref fc4) "__getattr__" = some none)
    (x57_2 : PySem.W.subIn K (.ref fc4) (.type "BaseException") = some true)
    (x57_3 : PySem.W.hasDictIn K fc4 = true)
    (x57_4 : PySem.W.findIn K (.ref fc4) "__class__" = some (some (.builtin "object.__class__")))
    (x57_5 : PySem.W.specialIn K (.builtin "object.__class__") "__get__" = some (some (.builtin "getset_descriptor.__get__")))
    (x57_6 : PySem.W.takesIn K (.builtin "object.__class__") = some true)
    (x57_7 : PySem.W.mroIn K fc4 (.type "object") = some true)
    (x58 : PySem.W.subIn K (.ref fc4) (.ref fc0) = some true)
    (x59 : PySem.W.subIn K (.ref fc4) (.ref fc8) = some false)
    (x60 : PySem.W.kitOne K (.ref fc4) (.ref fc2) = some false)
    (x61 : PySem.W.kitOne K (.ref fc4) (.ref fc4) = some true)
    (x62 : PySem.W.kitOne K (.ref fc4) (.ref fc6) = some false)
    (x63 : PySem.W.kitOne K (.ref fc4) (.ref fc8) = some false)
    (x64 : PySem.W.kitOne K (.ref fc4) (.ref fc10) = some false)
    (x65 : PySem.W.kitOne K (.ref fc4) (.ref fc12) = some false)
    (x66 : PySem.W.kitOne K (.ref fc4) (.ref fc14) = some false)
    (x67 : PySem.W.kitOne K (.ref fc4) (.ref fc16) = some false)
    (x68 : PySem.W.kitOne K (.ref fc4) (.ref fc18) = some false)
    (x69 : PySem.W.kitOne K (.ref fc4) (.ref fc20) = some false)
    (x70 : PySem.W.kitOne K (.ref fc4) (.ref fc22) = some false)
    (x71 : PySem.W.kitOne K (.ref fc4) (.ref fc24) = some false)
    (x72 : PySem.W.kitOne K (.ref fc4) (.ref fc26) = some false)
    (x73 : PySem.W.kitOne K (.ref fc4) (.ref fc28) = some false)
    (x74 : PySem.W.kitOne K (.ref fc4) (.ref fc30) = some false)
    (x75 : PySem.W.kitOne K (.ref fc4) (.ref fc32) = some false)
    (x76 : PySem.W.excIn K fc6 vErr "ValueError.__new__" = true)
    (x77 : PySem.W.keepIn K (.ref fc6) = true)
    (x78_0 : PySem.W.findIn K (.ref fc6) "__getattribute__" = some (some (.builtin "BaseException.__getattribute__")))
    (x78_1 : PySem.W.findIn K (.ref fc6) "__getattr__" = some none)
    (x78_2 : PySem.W.subIn K (.ref fc6) (.type "BaseException") = some true)
    (x78_3 : PySem.W.hasDictIn K fc6 = true)
    (x78_4 : PySem.W.findIn K (.ref fc6) "__class__" = some (some (.builtin "object.__class__")))
    (x78_5 : PySem.W.specialIn K (.builtin "object.__class__") "__get__" = some (some (.builtin "getset_descriptor.__get__")))
    (x78_6 : PySem.W.takesIn K (.builtin "object.__class__") = some true)
    (x78_7 : PySem.W.mroIn K fc6 (.type "object") = some true)
    (x79 : PySem.W.subIn K (.ref fc6) (.ref fc0) = some true)
    (x80 : PySem.W.subIn K (.ref fc6) (.ref fc8) = some false)
    (x81 : PySem.W.kitOne K (.ref fc6) (.ref fc2) = some false)
    (x82 : PySem.W.kitOne K (.ref fc6) (.ref fc4) = some false)
    (x83 : PySem.W.kitOne K (.ref fc6) (.ref fc6) = some true)
    (x84 : PySem.W.kitOne K (.ref fc6) (.ref fc8) = some false)
    (x85 : PySem.W.kitOne K (.ref fc6) (.ref fc10) = some false)
    (x86 : PySem.W.kitOne K (.ref fc6) (.ref fc12) = some false)
    (x87 : PySem.W.kitOne K (.ref fc6) (.ref fc14) = some false)
    (x88 : PySem.W.kitOne K (.ref fc6) (.ref fc16) = some false)
    (x89 : PySem.W.kitOne K (.ref fc6) (.ref fc18) = some false)
    (x90 : PySem.W.kitOne K (.ref fc6) (.ref fc20) = some false)
    (x91 : PySem.W.kitOne K (.ref fc6) (.ref fc22) = some false)
    (x92 : PySem.W.kitOne K (.ref fc6) (.ref fc24) = some false)
    (x93 : PySem.W.kitOne K (.ref fc6) (.ref fc26) = some false)
    (x94 : PySem.W.kitOne K (.ref fc6) (.ref fc28) = some false)
    (x95 : PySem.W.kitOne K (.ref fc6) (.ref fc30) = some false)
    (x96 : PySem.W.kitOne K (.ref fc6) (.ref fc32) = some false)
    (x97 : PySem.W.excIn K fc8 vErr "ValueError.__new__" = true)
    (x98 : PySem.W.keepIn K (.ref fc8) = true)
    (x99_0 : PySem.W.findIn K (.ref fc8) "__getattribute__" = some (some (.builtin "BaseException.__getattribute__")))
    (x99_1 : PySem.W.findIn K (.ref fc8) "__getattr__" = some none)
    (x99_2 : PySem.W.subIn K (.ref fc8) (.type "BaseException") = some true)
    (x99_3 : PySem.W.hasDictIn K fc8 = true)
    (x99_4 : PySem.W.findIn K (.ref fc8) "__class__" = some (some (.builtin "object.__class__")))
    (x99_5 : PySem.W.specialIn K (.builtin "object.__class__") "__get__" = some (some (.builtin "getset_descriptor.__get__")))
    (x99_6 : PySem.W.takesIn K (.builtin "object.__class__") = some true)
    (x99_7 : PySem.W.mroIn K fc8 (.type "object") = some true)
    (x100 : PySem.W.subIn K (.ref fc8) (.ref fc0) = some true)
    (x101 : PySem.W.subIn K (.ref fc8) (.ref fc8) = some true)
    (x102 : PySem.W.kitOne K (.ref fc8) (.ref fc2) = some false)
    (x103 : PySem.W.kitOne K (.ref fc8) (.ref fc4) = some false)
    (x104 : PySem.W.kitOne K (.ref fc8) (.ref fc6) = some false)
    (x105 : PySem.W.kitOne K (.ref fc8) (.ref fc8) = some true)
    (x106 : PySem.W.kitOne K (.ref fc8) (.ref fc10) = some false)
    (x107 : PySem.W.kitOne K (.ref fc8) (.ref fc12) = some false)
    (x108 : PySem.W.kitOne K (.ref fc8) (.ref fc14) = some false)
    (x109 : PySem.W.kitOne K (.ref fc8) (.ref fc16) = some false)
    (x110 : PySem.W.kitOne K (.ref fc8) (.ref fc18) = some false)
    (x111 : PySem.W.kitOne K (.ref fc8) (.ref fc20) = some false)
    (x112 : PySem.W.kitOne K (.ref fc8) (.ref fc22) = some false)
    (x113 : PySem.W.kitOne K (.ref fc8) (.ref fc24) = some false)
    (x114 : PySem.W.kitOne K (.ref fc8) (.ref fc26) = some false)
    (x115 : PySem.W.kitOne K (.ref fc8) (.ref fc28) = some false)
    (x116 : PySem.W.kitOne K (.ref fc8) (.ref fc30) = some false)
    (x117 : PySem.W.kitOne K (.ref fc8) (.ref fc32) = some false)
    (x118 : PySem.W.excIn K fc12 vErr "ValueError.__new__" = true)
    (x119 : PySem.W.keepIn K (.ref fc12) = true)
    (x120_0 : PySem.W.findIn K (.ref fc12) "__getattribute__" = some (some (.builtin "BaseException.__getattribute__")))
    (x120_1 : PySem.W.findIn K (.ref fc12) "__getattr__" = some none)
    (x120_2 : PySem.W.subIn K (.ref fc12) (.type "BaseException") = some true)
    (x120_3 : PySem.W.hasDictIn K fc12 = true)
    (x120_4 : PySem.W.findIn K (.ref fc12) "__class__" = some (some (.builtin "object.__class__")))
    (x120_5 : PySem.W.specialIn K (.builtin "object.__class__") "__get__" = some (some (.builtin "getset_descriptor.__get__")))
    (x120_6 : PySem.W.takesIn K (.builtin "object.__class__") = some true)
    (x120_7 : PySem.W.mroIn K fc12 (.type "object") = some true)
    (x121 : PySem.W.subIn K (.ref fc12) (.ref fc0) = some true)
    (x122 : PySem.W.subIn K (.ref fc12) (.ref fc8) = some false)
    (x123 : PySem.W.kitOne K (.ref fc12) (.ref fc2) = some false)
    (x124 : PySem.W.kitOne K (.ref fc12) (.ref fc4) = some false)
    (x125 : PySem.W.kitOne K (.ref fc12) (.ref fc6) = some false)
    (x126 : PySem.W.kitOne K (.ref fc12) (.ref fc8) = some false)
    (x127 : PySem.W.kitOne K (.ref fc12) (.ref fc10) = some false)
    (x128 : PySem.W.kitOne K (.ref fc12) (.ref fc12) = some true)
    (x129 : PySem.W.kitOne K (.ref fc12) (.ref fc14) = some false)
    (x130 : PySem.W.kitOne K (.ref fc12) (.ref fc16) = some false)
    (x131 : PySem.W.kitOne K (.ref fc12) (.ref fc18) = some false)
    (x132 : PySem.W.kitOne K (.ref fc12) (.ref fc20) = some false)
    (x133 : PySem.W.kitOne K (.ref fc12) (.ref fc22) = some false)
    (x134 : PySem.W.kitOne K (.ref fc12) (.ref fc24) = some false)
    (x135 : PySem.W.kitOne K (.ref fc12) (.ref fc26) = some false)
    (x136 : PySem.W.kitOne K (.ref fc12) (.ref fc28) = some false)
    (x137 : PySem.W.kitOne K (.ref fc12) (.ref fc30) = some false)
    (x138 : PySem.W.kitOne K (.ref fc12) (.ref fc32) = some false)
    (x139 : PySem.W.excIn K fc14 vErr "ValueError.__new__" = true)
    (x140 : PySem.W.keepIn K (.ref fc14) = true)
    (x141_0 : PySem.W.findIn K (.ref fc14) "__getattribute__" = some (some (.builtin "BaseException.__getattribute__")))
    (x141_1 : PySem.W.findIn K (.ref fc14) "__getattr__" = some none)
    (x141_2 : PySem.W.subIn K (.ref fc14) (.type "BaseException") = some true)
    (x141_3 : PySem.W.hasDictIn K fc14 = true)
    (x141_4 : PySem.W.findIn K (.ref fc14) "__class__" = some (some (.builtin "object.__class__")))
    (x141_5 : PySem.W.specialIn K (.builtin "object.__class__") "__get__" = some (some (.builtin "getset_descriptor.__get__")))
    (x141_6 : PySem.W.takesIn K (.builtin "object.__class__") = some true)
    (x141_7 : PySem.W.mroIn K fc14 (.type "object") = some true)
    (x142 : PySem.W.subIn K (.ref fc14) (.ref fc0) = some true)
    (x143 : PySem.W.subIn K (.ref fc14) (.ref fc8) = some false)
    (x144 : PySem.W.kitOne K (.ref fc14) (.ref fc2) = some false)
    (x145 : PySem.W.kitOne K (.ref fc14) (.ref fc4) = some false)
    (x146 : PySem.W.kitOne K (.ref fc14) (.ref fc6) = some false)
    (x147 : PySem.W.kitOne K (.ref fc14) (.ref fc8) = some false)
    (x148 : PySem.W.kitOne K (.ref fc14) (.ref fc10) = some false)
    (x149 : PySem.W.kitOne K (.ref fc14) (.ref fc12) = some false)
    (x150 : PySem.W.kitOne K (.ref fc14) (.ref fc14) = some true)
    (x151 : PySem.W.kitOne K (.ref fc14) (.ref fc16) = some false)
    (x152 : PySem.W.kitOne K (.ref fc14) (.ref fc18) = some false)
    (x153 : PySem.W.kitOne K (.ref fc14) (.ref fc20) = some false)
    (x154 : PySem.W.kitOne K (.ref fc14) (.ref fc22) = some false)
    (x155 : PySem.W.kitOne K (.ref fc14) (.ref fc24) = some false)
    (x156 : PySem.W.kitOne K (.ref fc14) (.ref fc26) = some false)
    (x157 : PySem.W.kitOne K (.ref fc14) (.ref fc28) = some false)
    (x158 : PySem.W.kitOne K (.ref fc14) (.ref fc30) = some false)
    (x159 : PySem.W.kitOne K (.ref fc14) (.ref fc32) = some false)
    (x160 : PySem.W.excIn K fc16 vErr "ValueError.__new__" = true)
    (x161 : PySem.W.keepIn K (.ref fc16) = true)
    (x162_0 : PySem.W.findIn K (.ref fc16) "__getattribute__" = some (some (.builtin "BaseException.__getattribute__")))
    (x162_1 : PySem.W.findIn K (.ref fc16) "__getattr__" = some none)
    (x162_2 : PySem.W.subIn K (.ref fc16) (.type "BaseException") = some true)
    (x162_3 : PySem.W.hasDictIn K fc16 = true)
    (x162_4 : PySem.W.findIn K (.ref fc16) "__class__" = some (some (.builtin "object.__class__")))
    (x162_5 : PySem.W.specialIn K (.builtin "object.__class__") "__get__" = some (some (.builtin "getset_descriptor.__get__")))
    (x162_6 : PySem.W.takesIn K (.builtin "object.__class__") = some true)
    (x162_7 : PySem.W.mroIn K fc16 (.type "object") = some true)
    (x163 : PySem.W.subIn K (.ref fc16) (.ref fc0) = some true)
    (x164 : PySem.W.subIn K (.ref fc16) (.ref fc8) = some false)
    (x165 : PySem.W.kitOne K (.ref fc16) (.ref fc2) = some false)
    (x166 : PySem.W.kitOne K (.ref fc16) (.ref fc4) = some false)
    (x167 : PySem.W.kitOne K (.ref fc16) (.ref fc6) = some false)
    (x168 : PySem.W.kitOne K (.ref fc16) (.ref fc8) = some false)
    (x169 : PySem.W.kitOne K (.ref fc16) (.ref fc10) = some false)
    (x170 : PySem.W.kitOne K (.ref fc16) (.ref fc12) = some false)
    (x171 : PySem.W.kitOne K (.ref fc16) (.ref fc14) = some false)
    (x172 : PySem.W.kitOne K (.ref fc16) (.ref fc16) = some true)
    (x173 : PySem.W.kitOne K (.ref fc16) (.ref fc18) = some false)
    (x174 : PySem.W.kitOne K (.ref fc16) (.ref fc20) = some false)
    (x175 : PySem.W.kitOne K (.ref fc16) (.ref fc22) = some false)
    (x176 : PySem.W.kitOne K (.ref fc16) (.ref fc24) = some false)
    (x177 : PySem.W.kitOne K (.ref fc16) (.ref fc26) = some false)
    (x178 : PySem.W.kitOne K (.ref fc16) (.ref fc28) = some false)
    (x179 : PySem.W.kitOne K (.ref fc16) (.ref fc30) = some false)
    (x180 : PySem.W.kitOne K (.ref fc16) (.ref fc32) = some false)
    (x181 : PySem.W.subIn K (.ref fc2) (.type "BaseException") = some true)
    (x182 : PySem.W.typeIn K (.ref fc2) = some (.type "type"))
    (x183 : PySem.W.subIn K (.ref fc4) (.type "BaseException") = some true)
    (x184 : PySem.W.typeIn K (.ref fc4) = some (.type "type"))
    (x185 : PySem.W.subIn K (.ref fc14) (.type "BaseException") = some true)
    (x186 : PySem.W.typeIn K (.ref fc14) = some (.type "type"))
    (x187 : PySem.W.subIn K (.ref fc6) (.type "BaseException") = some true)
    (x188 : PySem.W.typeIn K (.ref fc6) = some (.type "type"))
    (x189 : PySem.W.subIn K (.ref fc12) (.type "BaseException") = some true)
    (x190 : PySem.W.typeIn K (.ref fc12) = some (.type "type"))
    (x191 : PySem.W.subIn K (.ref fc16) (.type "BaseException") = some true)
    (x192 : PySem.W.typeIn K (.ref fc16) = some (.type "type"))
    (x193 : PySem.W.subIn K (.ref fc0) (.type "BaseException") = some true)
    (x194 : PySem.W.typeIn K (.ref fc0) = some (.type "type"))
    (x195 : PySem.W.subIn K (.ref fc8) (.type "BaseException") = some true)
    (x196 : PySem.W.typeIn K (.ref fc8) = some (.type "type"))
    (x197 : PySem.W.hasDictIn K fc0 = true)
    (x198 : PySem.W.hasDictIn K fc8 = true)
    {fq0 : Addr} (mq0 : PySem.W.nsIn K mainGlobals "ACTIONS" = some (some (.ref fq0)))
    (dq0 : ModD K w.params fq0 [("enter", .ref f72), ("part", .ref f73), ("bring", .ref f74), ("take", .ref f75), ("found", .ref f76), ("pay", .ref f77), ("bid", .ref f78), ("lay", .ref f79), ("swap", .ref f80), ("close", .ref f81)]) :
    LamX.LawAtS l w K CX0 10 63 "_law_script" mg fa h := by
  have e := hfa.symm.trans (PySem.W.mg_of X G a127)
  cases e
  exact ⟨PySem.W.fnOf "law" "law" (defArgs s_law) (defBody s_law) (defScope s_law) .none kV127 dc127 pm127 an127 cd127 ct127, ([(326, 322)] : List (Addr × Addr)), spLaw K (top_mk X G g_House g_Table g_Circle g_Seat g_Books a0 l0 c0 k0 a1 i1 l1 c1 k1 a2 i2 l2 c2 k2 a3 i3 l3 c3 k3 a4 i4 l4 c4 k4 a5 i5 l5 c5 k5 a6 i6 l6 c6 k6 a7 i7 l7 c7 k7 a8 i8 l8 c8 k8 a9 i9 l9 c9 k9 a10 i10 l10 c10 k10 a11 i11 l11 c11 k11 a12 i12 l12 c12 k12 a13 i13 l13 c13 k13 a14 i14 l14 c14 k14 a15 i15 l15 c15 k15 a16 i16 l16 c16 k16 a17 i17 l17 c17 k17 a18 i18 l18 c18 k18 a19 l19 c19 k19 a20 l20 c20 k20 a21 l21 c21 k21 a22 l22 c22 k22 a23 l23 c23 k23 a24 l24 c24 k24 a25 l25 c25 k25 a26 l26 c26 k26 a27 l27 c27 k27 a28 i28 l28 c28 k28 a29 i29 l29 c29 k29 a30 i30 l30 c30 k30 e30 a31 i31 l31 c31 k31 a32 i32 l32 c32 k32 a33 i33 l33 c33 k33 a34 i34 l34 c34 k34 a35 i35 l35 c35 k35 a36 i36 l36 c36 k36 a37 i37 l37 c37 k37 a38 i38 l38 c38 k38 a39 i39 l39 c39 k39 a40 i40 l40 c40 k40 a41 i41 l41 c41 k41 a42 i42 l42 c42 k42 a43 i43 l43 c43 k43 a44 i44 l44 c44 k44 a45 i45 l45 c45 k45 a46 i46 l46 c46 k46 a47 i47 l47 c47 k47 a48 i48 l48 c48 k48 a49 i49 l49 c49 k49 a50 i50 l50 c50 k50 a51 i51 l51 c51 k51 a52 i52 l52 c52 k52 a53 i53 l53 c53 k53 a54 i54 l54 c54 k54 a55 i55 l55 c55 k55 a56 i56 l56 c56 k56 a57 l57 c57 k57 a58 l58 c58 k58 a59 l59 c59 k59 a60 i60 l60 c60 k60 a61 i61 l61 c61 k61 a62 i62 l62 c62 k62 a63 i63 l63 c63 k63 a64 i64 l64 c64 k64 a65 i65 l65 c65 k65 a66 i66 l66 c66 k66 a67 i67 l67 c67 k67 a68 i68 l68 c68 k68 a69 i69 l69 c69 k69 a70 l70 c70 k70 a71 l71 c71 k71 a72 l72 c72 k72 a73 l73 c73 k73 a74 l74 c74 k74 a75 l75 c75 k75 a76 l76 c76 k76 a77 l77 c77 k77 a78 l78 c78 k78 a79 l79 c79 k79 a80 l80 c80 k80 a81 l81 c81 k81 a82 l82 c82 k82 a83 l83 c83 k83 a84 l84 c84 k84 a85 i85 l85 c85 k85 a86 i86 l86 c86 k86 a87 i87 l87 c87 k87 a88 i88 l88 c88 k88 a89 i89 l89 c89 k89 a90 i90 l90 c90 k90 a91 i91 l91 c91 k91 a92 i92 l92 c92 k92 a93 i93 l93 c93 k93 a94 i94 l94 c94 k94 a95 i95 l95 c95 k95 a96 i96 l96 c96 k96 a97 i97 l97 c97 k97 a98 i98 l98 c98 k98 a99 i99 l99 c99 k99 a100 i100 l100 c100 k100 a101 i101 l101 c101 k101 a102 i102 l102 c102 k102 a103 i103 l103 c103 k103 a104 i104 l104 c104 k104 a105 i105 l105 c105 k105 a106 i106 l106 c106 k106 a107 i107 l107 c107 k107 a108 i108 l108 c108 k108 a109 i109 l109 c109 k109 a110 i110 l110 c110 k110 a111 i111 l111 c111 k111 a112 i112 l112 c112 k112 a113 i113 l113 c113 k113 a114 l114 c114 k114 a115 l115 c115 k115 a116 l116 c116 k116 a117 l117 c117 k117 a118 l118 c118 k118 a119 l119 c119 k119 a120 l120 c120 k120 a121 l121 c121 k121 a122 l122 c122 k122 a123 l123 c123 k123 a124 l124 c124 k124 a125 l125 c125 k125 a126 l126 c126 k126 a127 l127 c127 k127 pg_Books hd_Books po_Books sa_Books mi_Books kc_Books na_Books_shelves na_Books_trail pg_Seat hd_Seat po_Seat sa_Seat mi_Seat kc_Seat na_Seat_state na_Seat_since na_Seat_pledge na_Seat_given na_Seat_drawn na_Seat_shared na_Seat_pledge_stakes pg_Circle hd_Circle po_Circle sa_Circle mi_Circle kc_Circle na_Circle_line na_Circle_stake na_Circle_first_pledges na_Circle_wishes na_Circle_bidding na_Circle_seats na_Circle_open_round na_Circle_rests_due na_Circle_chest na_Circle_flows pg_Table hd_Table po_Table sa_Table mi_Table kc_Table na_Table_sitters na_Table_circle na_Table_payments na_Table_offers na_Table_closed pg_House hd_House po_House sa_House mi_House kc_House na_House_books na_House_kept na_House_undone z0 z1 z2 z3 z4 z5 z6 z7 z8 z9 z10 z11 z12 z13 z14 z15 z16 z17 z18 n0 n1 n2 n3 n4 n5 n6 n7 n8 n9 n10 n11 n12 cc0 x1 x3 x5 x7 x9 x11 x13 x15 x17 x19 x21 x23 x25 x27 x29 x31 x33 x34 x35 x36_0 x36_1 x36_2 x36_3 x36_4 x36_5 x36_6 x36_7 x37 x38 x39 x40 x41 x42 x43 x44 x45 x46 x47 x48 x49 x50 x51 x52 x53 x54 x55 x56 x57_0 x57_1 x57_2 x57_3 x57_4 x57_5 x57_6 x57_7 x58 x59 x60 x61 x62 x63 x64 x65 x66 x67 x68 x69 x70 x71 x72 x73 x74 x75 x76 x77 x78_0 x78_1 x78_2 x78_3 x78_4 x78_5 x78_6 x78_7 x79 x80 x81 x82 x83 x84 x85 x86 x87 x88 x89 x90 x91 x92 x93 x94 x95 x96 x97 x98 x99_0 x99_1 x99_2 x99_3 x99_4 x99_5 x99_6 x99_7 x100 x101 x102 x103 x104 x105 x106 x107 x108 x109 x110 x111 x112 x113 x114 x115 x116 x117 x118 x119 x120_0 x120_1 x120_2 x120_3 x120_4 x120_5 x120_6 x120_7 x121 x122 x123 x124 x125 x126 x127 x128 x129 x130 x131 x132 x133 x134 x135 x136 x137 x138 x139 x140 x141_0 x141_1 x141_2 x141_3 x141_4 x141_5 x141_6 x141_7 x142 x143 x144 x145 x146 x147 x148 x149 x150 x151 x152 x153 x154 x155 x156 x157 x158 x159 x160 x161 x162_0 x162_1 x162_2 x162_3 x162_4 x162_5 x162_6 x162_7 x163 x164 x165 x166 x167 x168 x169 x170 x171 x172 x173 x174 x175 x176 x177 x178 x179 x180 x181 x182 x183 x184 x185 x186 x187 x188 x189 x190 x191 x192 x193 x194 x195 x196 x197 x198 mq0).tabs, hT, nT, hC, fun s v => .of_eq rfl,
    fun H a ns hl _ hH hS => ⟨a, ns, rfl, hS, hl, (List.forall_mem_cons.mpr ⟨LamX.TabS.nil (hH (326, 322) List.mem_cons_self), (fun _ h => nomatch h)⟩), fun _ => rfl⟩,
    fun base _ _ hB => ok_law (fun_mk (st := s_law) l127 c127 k127) (top_mk X G g_House g_Table g_Circle g_Seat g_Books a0 l0 c0 k0 a1 i1 l1 c1 k1 a2 i2 l2 c2 k2 a3 i3 l3 c3 k3 a4 i4 l4 c4 k4 a5 i5 l5 c5 k5 a6 i6 l6 c6 k6 a7 i7 l7 c7 k7 a8 i8 l8 c8 k8 a9 i9 l9 c9 k9 a10 i10 l10 c10 k10 a11 i11 l11 c11 k11 a12 i12 l12 c12 k12 a13 i13 l13 c13 k13 a14 i14 l14 c14 k14 a15 i15 l15 c15 k15 a16 i16 l16 c16 k16 a17 i17 l17 c17 k17 a18 i18 l18 c18 k18 a19 l19 c19 k19 a20 l20 c20 k20 a21 l21 c21 k21 a22 l22 c22 k22 a23 l23 c23 k23 a24 l24 c24 k24 a25 l25 c25 k25 a26 l26 c26 k26 a27 l27 c27 k27 a28 i28 l28 c28 k28 a29 i29 l29 c29 k29 a30 i30 l30 c30 k30 e30 a31 i31 l31 c31 k31 a32 i32 l32 c32 k32 a33 i33 l33 c33 k33 a34 i34 l34 c34 k34 a35 i35 l35 c35 k35 a36 i36 l36 c36 k36 a37 i37 l37 c37 k37 a38 i38 l38 c38 k38 a39 i39 l39 c39 k39 a40 i40 l40 c40 k40 a41 i41 l41 c41 k41 a42 i42 l42 c42 k42 a43 i43 l43 c43 k43 a44 i44 l44 c44 k44 a45 i45 l45 c45 k45 a46 i46 l46 c46 k46 a47 i47 l47 c47 k47 a48 i48 l48 c48 k48 a49 i49 l49 c49 k49 a50 i50 l50 c50 k50 a51 i51 l51 c51 k51 a52 i52 l52 c52 k52 a53 i53 l53 c53 k53 a54 i54 l54 c54 k54 a55 i55 l55 c55 k55 a56 i56 l56 c56 k56 a57 l57 c57 k57 a58 l58 c58 k58 a59 l59 c59 k59 a60 i60 l60 c60 k60 a61 i61 l61 c61 k61 a62 i62 l62 c62 k62 a63 i63 l63 c63 k63 a64 i64 l64 c64 k64 a65 i65 l65 c65 k65 a66 i66 l66 c66 k66 a67 i67 l67 c67 k67 a68 i68 l68 c68 k68 a69 i69 l69 c69 k69 a70 l70 c70 k70 a71 l71 c71 k71 a72 l72 c72 k72 a73 l73 c73 k73 a74 l74 c74 k74 a75 l75 c75 k75 a76 l76 c76 k76 a77 l77 c77 k77 a78 l78 c78 k78 a79 l79 c79 k79 a80 l80 c80 k80 a81 l81 c81 k81 a82 l82 c82 k82 a83 l83 c83 k83 a84 l84 c84 k84 a85 i85 l85 c85 k85 a86 i86 l86 c86 k86 a87 i87 l87 c87 k87 a88 i88 l88 c88 k88 a89 i89 l89 c89 k89 a90 i90 l90 c90 k90 a91 i91 l91 c91 k91 a92 i92 l92 c92 k92 a93 i93 l93 c93 k93 a94 i94 l94 c94 k94 a95 i95 l95 c95 k95 a96 i96 l96 c96 k96 a97 i97 l97 c97 k97 a98 i98 l98 c98 k98 a99 i99 l99 c99 k99 a100 i100 l100 c100 k100 a101 i101 l101 c101 k101 a102 i102 l102 c102 k102 a103 i103 l103 c103 k103 a104 i104 l104 c104 k104 a105 i105 l105 c105 k105 a106 i106 l106 c106 k106 a107 i107 l107 c107 k107 a108 i108 l108 c108 k108 a109 i109 l109 c109 k109 a110 i110 l110 c110 k110 a111 i111 l111 c111 k111 a112 i112 l112 c112 k112 a113 i113 l113 c113 k113 a114 l114 c114 k114 a115 l115 c115 k115 a116 l116 c116 k116 a117 l117 c117 k117 a118 l118 c118 k118 a119 l119 c119 k119 a120 l120 c120 k120 a121 l121 c121 k121 a122 l122 c122 k122 a123 l123 c123 k123 a124 l124 c124 k124 a125 l125 c125 k125 a126 l126 c126 k126 a127 l127 c127 k127 pg_Books hd_Books po_Books sa_Books mi_Books kc_Books na_Books_shelves na_Books_trail pg_Seat hd_Seat po_Seat sa_Seat mi_Seat kc_Seat na_Seat_state na_Seat_since na_Seat_pledge na_Seat_given na_Seat_drawn na_Seat_shared na_Seat_pledge_stakes pg_Circle hd_Circle po_Circle sa_Circle mi_Circle kc_Circle na_Circle_line na_Circle_stake na_Circle_first_pledges na_Circle_wishes na_Circle_bidding na_Circle_seats na_Circle_open_round na_Circle_rests_due na_Circle_chest na_Circle_flows pg_Table hd_Table po_Table sa_Table mi_Table kc_Table na_Table_sitters na_Table_circle na_Table_payments na_Table_offers na_Table_closed pg_House hd_House po_House sa_House mi_House kc_House na_House_books na_House_kept na_House_undone z0 z1 z2 z3 z4 z5 z6 z7 z8 z9 z10 z11 z12 z13 z14 z15 z16 z17 z18 n0 n1 n2 n3 n4 n5 n6 n7 n8 n9 n10 n11 n12 cc0 x1 x3 x5 x7 x9 x11 x13 x15 x17 x19 x21 x23 x25 x27 x29 x31 x33 x34 x35 x36_0 x36_1 x36_2 x36_3 x36_4 x36_5 x36_6 x36_7 x37 x38 x39 x40 x41 x42 x43 x44 x45 x46 x47 x48 x49 x50 x51 x52 x53 x54 x55 x56 x57_0 x57_1 x57_2 x57_3 x57_4 x57_5 x57_6 x57_7 x58 x59 x60 x61 x62 x63 x64 x65 x66 x67 x68 x69 x70 x71 x72 x73 x74 x75 x76 x77 x78_0 x78_1 x78_2 x78_3 x78_4 x78_5 x78_6 x78_7 x79 x80 x81 x82 x83 x84 x85 x86 x87 x88 x89 x90 x91 x92 x93 x94 x95 x96 x97 x98 x99_0 x99_1 x99_2 x99_3 x99_4 x99_5 x99_6 x99_7 x100 x101 x102 x103 x104 x105 x106 x107 x108 x109 x110 x111 x112 x113 x114 x115 x116 x117 x118 x119 x120_0 x120_1 x120_2 x120_3 x120_4 x120_5 x120_6 x120_7 x121 x122 x123 x124 x125 x126 x127 x128 x129 x130 x131 x132 x133 x134 x135 x136 x137 x138 x139 x140 x141_0 x141_1 x141_2 x141_3 x141_4 x141_5 x141_6 x141_7 x142 x143 x144 x145 x146 x147 x148 x149 x150 x151 x152 x153 x154 x155 x156 x157 x158 x159 x160 x161 x162_0 x162_1 x162_2 x162_3 x162_4 x162_5 x162_6 x162_7 x163 x164 x165 x166 x167 x168 x169 x170 x171 x172 x173 x174 x175 x176 x177 x178 x179 x180 x181 x182 x183 x184 x185 x186 x187 x188 x189 x190 x191 x192 x193 x194 x195 x196 x197 x198 mq0) (hB (326, 322) List.mem_cons_self) dq0⟩
end Su
namespace Su
open PySem PySem.W PySem.Calls PyProof.Rows
abbrev hdR : OpenRow := OpenLaw.row PySem.Challenge.rw_susu_k40_members_and_purses
abbrev hdV : Program := view hdR.prog [88]
def hdN0 : List PySem.Str := ["_wall", "SusuError", "BadName", "BadNumber", "Known", "Unknown", "Twice", "Seated", "Holding", "Short", "NoSeat", "Ended", "NotEnded", "Fell", "Paid", "NoBids", "NotWaiting", "Uncovered", "NothingLeft", "NoOrder", "MEMBERS", "TABLES", "SUMS", "BROUGHT", "Books", "set_down", "first_covered", "is_covered", "within", "order_or_bar"]
def hdN1 : List PySem.Str := ["told_order", "fullest_span", "surplus", "rounds_between", "MOST_STAKE", "LEAST_SEATS", "MOST_SEATS", "MOST_COINS", "WAITS", "DREW", "FELL", "Seat", "Circle", "refuse_opening", "first_queue", "LETTERS", "LONGEST_NAME", "is_name", "Table", "opened_table", "report_copy", "enter", "part", "bring", "take", "found", "pay", "bid", "lay", "swap"]
def hdN2 : List PySem.Str := ["close", "refuse_ended", "refuse_beyond", "ACTIONS", "done", "House", "_law_draws", "_law_same", "_law_names", "_law_is_name", "_law_member_deed", "_law_table_due", "_law_due", "_law_named", "_law_done", "_law_marks", "_law_table_seen", "_law_seen", "_law_missing"]
def hdN : List PySem.Str := (hdN0 ++ (hdN1 ++ hdN2))
theorem hdUse {p : Prop} (_H : PySem.W.Hook) (h : p) : p := h
end Su
local macro_rules | `(tactic| o_head $H:term) => `(tactic| exact Su.hdUse $H (by assumption))
open PySem PySem.W PySem.Calls PyProof.Rows
set_option maxHeartbeats 0 in
theorem Su.hdK (h : OpenRow.Holds Su.hdR) : OpenRow.Holds Su.hdR := by
  k_head

namespace Su
def hdA0 : List Addr := [2, 3, 15, 17, 18, 20, 21, 22, 29, 30, 31, 32, 35, 42, 43, 44, 47, 54, 55, 56, 59, 66, 67, 68, 71, 78, 79, 80, 83, 90]
def hdA1 : List Addr := [91, 92, 95, 102, 103, 104, 107, 114, 115, 116, 119, 126, 127, 128, 131, 138, 139, 140, 143, 150, 151, 152, 155, 162, 163, 164, 167, 174, 175, 176]
def hdA2 : List Addr := [179, 186, 187, 188, 191, 198, 199, 200, 203, 210, 211, 212, 215, 222, 223, 224, 227, 234, 235, 236, 239, 246, 248, 249, 251, 252, 253, 254, 255, 265]
def hdA3 : List Addr := [267, 268, 270, 271, 272, 274, 275, 277, 278, 279, 281, 282, 284, 285, 286, 288, 289, 291, 292, 293, 295, 296, 298, 299, 300, 302, 303, 305, 306, 307]
def hdA4 : List Addr := [309, 310, 312, 313, 314, 316, 317, 319, 320, 321, 323, 324, 326, 327, 328, 330, 331, 333, 334, 335, 337, 338, 340, 341, 342, 344, 345, 347, 348, 349]
def hdA5 : List Addr := [351, 352, 354, 355, 356, 358, 359, 361, 362, 363, 365, 366, 368, 369, 370, 372, 373, 375, 376, 377, 379, 380, 382, 383, 384, 387, 388, 389, 390, 391]
def hdA6 : List Addr := [392, 393, 396, 398, 399, 401, 402, 403, 405, 406, 408, 409, 410, 412, 413, 415, 416, 417, 420, 421, 422, 424, 425, 427, 428, 429, 432, 433, 434, 437]
def hdA7 : List Addr := [438, 439, 441, 442, 444, 445, 446, 448, 449, 451, 452, 460, 462, 463, 465, 466, 467, 469, 470, 472, 473, 474, 475, 476, 477, 478, 488, 489, 492, 493]
def hdA8 : List Addr := [494, 496, 497, 499, 500, 501, 503, 504, 506, 507, 508, 510, 511, 513, 514, 515, 517, 518, 520, 521, 522, 524, 525, 527, 528, 529, 531, 532, 534, 535]
def hdA9 : List Addr := [536, 538, 539, 541, 542, 543, 545, 546, 548, 549, 550, 552, 553, 555, 556, 557, 559, 560, 562, 563, 564, 567, 568, 569, 571, 572, 574, 575, 576, 578]
def hdA10 : List Addr := [579, 581, 582, 583, 586, 587, 588, 591, 592, 593, 595, 596, 598, 599, 600, 603, 604, 605, 607, 608, 610, 611, 612, 615, 616, 617, 620, 621, 622, 625]
def hdA11 : List Addr := [626, 627, 629, 630, 632, 633, 634, 636, 637, 639, 640, 641, 643, 644, 646, 647, 648, 651, 652, 653, 655, 656, 658, 659, 660, 663, 664, 665, 668, 669]
def hdA12 : List Addr := [670, 671, 672, 673, 674, 677, 680, 681, 682, 685, 686, 687, 690, 691, 699, 701, 702, 704, 705, 706, 708, 709, 711, 712, 713, 715, 716, 718, 719, 720]
def hdA13 : List Addr := [723, 724, 725, 728, 729, 730, 732, 733, 735, 736, 737, 739, 740, 742, 743, 744, 747, 748, 749, 752, 753, 754, 757, 758, 759, 760, 761, 762, 763, 766]
def hdA14 : List Addr := [768, 769, 771, 772, 773, 775, 776, 778, 779, 780, 782, 783, 785, 786, 787, 790, 791, 792, 794, 795, 797, 798, 799, 801, 802, 804, 805, 806, 809, 810]
def hdA15 : List Addr := [811, 813, 814, 816, 817, 818, 820, 821, 823, 824, 825, 827, 828, 830, 831, 832, 834, 835, 837, 838, 839, 841, 842, 844, 845, 846, 848, 849, 851, 852]
def hdA16 : List Addr := [853, 855, 856, 858, 859, 860, 861, 863, 864, 866, 867, 875, 877, 878, 880, 881, 882, 884, 885, 887, 888, 889, 891, 892, 894, 895, 896, 898, 899, 901]
def hdA17 : List Addr := [902, 903, 905, 906, 908, 909, 910, 912, 913, 915, 916, 917, 919, 920, 922, 923, 924, 926, 927, 929, 930, 931, 933, 934, 936, 937, 938, 940, 941, 943]
def hdA18 : List Addr := [944, 945, 947, 948, 950, 951, 952, 954, 955, 957, 958, 959, 961, 962, 964, 965, 966, 968, 969, 971, 972, 973, 975, 976, 978, 979, 980, 982, 983, 985]
def hdA19 : List Addr := [986, 987, 989, 990, 992, 993, 994, 996, 997, 999, 1000, 1001, 1003, 1004, 1006, 1007, 1008, 1010, 1011, 1013, 1014, 1015, 1017, 1018, 1020, 1021, 1022, 1025, 1026, 1027]
def hdA20 : List Addr := [1030, 1031, 1032, 1034, 1035, 1037, 1038, 1039, 1041, 1042, 1044, 1045, 1046, 1048, 1049, 1051, 1052, 1053, 1055, 1056, 1058, 1059, 1060, 1063, 1064, 1065, 1067, 1068, 1070, 1071]
def hdA21 : List Addr := [1072, 1074, 1075, 1077, 1078, 1079, 1080, 1081, 1082, 1083, 1086, 1088, 1089, 1091, 1092, 1093, 1096, 1097, 1098, 1101, 1102, 1103, 1106, 1107, 1108, 1110, 1111, 1113, 1114, 1115]
def hdA22 : List Addr := [1118, 1119, 1120, 1123, 1124, 1125, 1127, 1128, 1130, 1131, 1132, 1134, 1135, 1137, 1138, 1139, 1142, 1143, 1144, 1147, 1148, 1149, 1152, 1153, 1154, 1156, 1157, 1159, 1160, 1161]
def hdA23 : List Addr := [1163, 1164, 1166, 1167]
def hdA : List Addr := (hdA0 ++ (hdA1 ++ (hdA2 ++ (hdA3 ++ (hdA4 ++ (hdA5 ++ (hdA6 ++ (hdA7 ++ (hdA8 ++ (hdA9 ++ (hdA10 ++ (hdA11 ++ (hdA12 ++ (hdA13 ++ (hdA14 ++ (hdA15 ++ (hdA16 ++ (hdA17 ++ (hdA18 ++ (hdA19 ++ (hdA20 ++ (hdA21 ++ (hdA22 ++ hdA23)))))))))))))))))))))))
set_option maxHeartbeats 0 in
theorem hdE : ∀ P, hdA = (Su.hdK.heap_1 P).map (·.1) := fun P => by kernel_rfl
def hdX : List Addr := [322]
noncomputable abbrev hdH : PySem.W.Hook := kmHook Su.hdK.heap_1 hdA hdE hdX
def hdO (s : SharedT) : List (Option Obj) × List (Option Obj) := (hdA.map (HandSHeadRun.getT s), hdX.map (HandSHeadRun.getT s))
theorem hdO_eq (s : SharedT) : hdO s = hdH.obs s.abs := by
  show (hdA.map _, hdX.map _) = (hdA.map s.abs.heap.get?, hdX.map s.abs.heap.get?)
  rw [show HandSHeadRun.getT s = s.abs.heap.get? from funext fun a => HandSHeadRun.getT_eq s a]
set_option maxHeartbeats 0 in
theorem hdF (w : World) : HandSHeadRun.RunEq hdR hdV hdH hdO 14000 hdN (w.withFollow "special-get-raises" false) := by intro os; kernel_rfl
set_option maxHeartbeats 0 in
theorem hdT (w : World) : HandSHeadRun.RunEq hdR hdV hdH hdO 14000 hdN (w.withFollow "special-get-raises" true) := by intro os; kernel_rfl
theorem hdRun (w : World) : HandSHeadRun.RunEq hdR hdV hdH hdO 14000 hdN w := PySem.W.byRow2 "special-get-raises" hdF hdT w
end Su
open PySem PySem.W PyProof.Rows
set_option maxHeartbeats 0 in
theorem PySem.Challenge.cw_susu_k40_members_and_purses_holds : PySem.Challenge.rw_susu_k40_members_and_purses.Holds := by
  w_on; o_law; refine HandSHeadRun.head_any (r := Su.hdR) (q := Su.hdV) (H := Su.hdH) (ob := Su.hdO) (M := 14000) (loose := Su.hdN) (d := HandSHeadRun.topDef Su.hdR.prog 88) (kwd := []) Su.hdO_eq (by kernel_rfl) (fun s => by kernel_rfl) Su.hdRun (by kernel_rfl) (by kernel_rfl) (by kernel_rfl) (by rfl) (by first | assumption | decide +kernel) (by decide +kernel) ⟨rfl, rfl, rfl, rfl, rfl, by decide +kernel⟩ ?hw ?hc; (case hw => w_witness2)
  k_fill
  refine LamX.walk_ofTs (l := PySem.Challenge.rw_susu_k40_members_and_purses) (n := 63) (k := 10) (x := "_law_script") (CX := fun _ => L2.CX0) rfl (by decide) rfl ⟨rfl, by decide, by decide⟩ (fun w h Y => PySem.W.km_in_of Y) ?F (fun _ _ _ _ _ h => h)
  case F =>
    intro w mg fa h Y KX G hmg
    have hT8 := PySem.W.km_tabs_of Y
    refine' Su.all_mk KX G hmg (List.forall_mem_cons.mpr ⟨hT8 322 (by first | (simp; done) | decide +kernel), (fun _ h => nomatch h)⟩) (List.forall_mem_cons.mpr ⟨(show _ = none from by kernel_rfl), (fun _ h => nomatch h)⟩) (List.forall_mem_cons.mpr ⟨PySem.W.codeHd_of_K KX (by kernel_rfl), (fun _ h => nomatch h)⟩) ?g_House ?g_Table ?g_Circle ?g_Seat ?g_Books ?a0 ?l0 ?c0 ?k0 ?a1 ?i1 ?l1 ?c1 ?k1 ?a2 ?i2 ?l2 ?c2 ?k2 ?a3 ?i3 ?l3 ?c3 ?k3 ?a4 ?i4 ?l4 ?c4 ?k4 ?a5 ?i5 ?l5 ?c5 ?k5 ?a6 ?i6 ?l6 ?c6 ?k6 ?a7 ?i7 ?l7 ?c7 ?k7 ?a8 ?i8 ?l8 ?c8 ?k8 ?a9 ?i9 ?l9 ?c9 ?k9 ?a10 ?i10 ?l10 ?c10 ?k10 ?a11 ?i11 ?l11 ?c11 ?k11 ?a12 ?i12 ?l12 ?c12 ?k12 ?a13 ?i13 ?l13 ?c13 ?k13 ?a14 ?i14 ?l14 ?c14 ?k14 ?a15 ?i15 ?l15 ?c15 ?k15 ?a16 ?i16 ?l16 ?c16 ?k16 ?a17 ?i17 ?l17 ?c17 ?k17 ?a18 ?i18 ?l18 ?c18 ?k18 ?a19 ?l19 ?c19 ?k19 ?a20 ?l20 ?c20 ?k20 ?a21 ?l21 ?c21 ?k21 ?a22 ?l22 ?c22 ?k22 ?a23 ?l23 ?c23 ?k23 ?a24 ?l24 ?c24 ?k24 ?a25 ?l25 ?c25 ?k25 ?a26 ?l26 ?c26 ?k26 ?a27 ?l27 ?c27 ?k27 ?a28 ?i28 ?l28 ?c28 ?k28 ?a29 ?i29 ?l29 ?c29 ?k29 ?a30 ?i30 ?l30 ?c30 ?k30 ?e30 ?a31 ?i31 ?l31 ?c31 ?k31 ?a32 ?i32 ?l32 ?c32 ?k32 ?a33 ?i33 ?l33 ?c33 ?k33 ?a34 ?i34 ?l34 ?c34 ?k34 ?a35 ?i35 ?l35 ?c35 ?k35 ?a36 ?i36 ?l36 ?c36 ?k36 ?a37 ?i37 ?l37 ?c37 ?k37 ?a38 ?i38 ?l38 ?c38 ?k38 ?a39 ?i39 ?l39 ?c39 ?k39 ?a40 ?i40 ?l40 ?c40 ?k40 ?a41 ?i41 ?l41 ?c41 ?k41 ?a42 ?i42 ?l42 ?c42 ?k42 ?a43 ?i43 ?l43 ?c43 ?k43 ?a44 ?i44 ?l44 ?c44 ?k44 ?a45 ?i45 ?l45 ?c45 ?k45 ?a46 ?i46 ?l46 ?c46 ?k46 ?a47 ?i47 ?l47 ?c47 ?k47 ?a48 ?i48 ?l48 ?c48 ?k48 ?a49 ?i49 ?l49 ?c49 ?k49 ?a50 ?i50 ?l50 ?c50 ?k50 ?a51 ?i51 ?l51 ?c51 ?k51 ?a52 ?i52 ?l52 ?c52 ?k52 ?a53 ?i53 ?l53 ?c53 ?k53 ?a54 ?i54 ?l54 ?c54 ?k54 ?a55 ?i55 ?l55 ?c55 ?k55 ?a56 ?i56 ?l56 ?c56 ?k56 ?a57 ?l57 ?c57 ?k57 ?a58 ?l58 ?c58 ?k58 ?a59 ?l59 ?c59 ?k59 ?a60 ?i60 ?l60 ?c60 ?k60 ?a61 ?i61 ?l61 ?c61 ?k61 ?a62 ?i62 ?l62 ?c62 ?k62 ?a63 ?i63 ?l63 ?c63 ?k63 ?a64 ?i64 ?l64 ?c64 ?k64 ?a65 ?i65 ?l65 ?c65 ?k65 ?a66 ?i66 ?l66 ?c66 ?k66 ?a67 ?i67 ?l67 ?c67 ?k67 ?a68 ?i68 ?l68 ?c68 ?k68 ?a69 ?i69 ?l69 ?c69 ?k69 ?a70 ?l70 ?c70 ?k70 ?a71 ?l71 ?c71 ?k71 ?a72 ?l72 ?c72 ?k72 ?a73 ?l73 ?c73 ?k73 ?a74 ?l74 ?c74 ?k74 ?a75 ?l75 ?c75 ?k75 ?a76 ?l76 ?c76 ?k76 ?a77 ?l77 ?c77 ?k77 ?a78 ?l78 ?c78 ?k78 ?a79 ?l79 ?c79 ?k79 ?a80 ?l80 ?c80 ?k80 ?a81 ?l81 ?c81 ?k81 ?a82 ?l82 ?c82 ?k82 ?a83 ?l83 ?c83 ?k83 ?a84 ?l84 ?c84 ?k84 ?a85 ?i85 ?l85 ?c85 ?k85 ?a86 ?i86 ?l86 ?c86 ?k86 ?a87 ?i87 ?l87 ?c87 ?k87 ?a88 ?i88 ?l88 ?c88 ?k88 ?a89 ?i89 ?l89 ?c89 ?k89 ?a90 ?i90 ?l90 ?c90 ?k90 ?a91 ?i91 ?l91 ?c91 ?k91 ?a92 ?i92 ?l92 ?c92 ?k92 ?a93 ?i93 ?l93 ?c93 ?k93 ?a94 ?i94 ?l94 ?c94 ?k94 ?a95 ?i95 ?l95 ?c95 ?k95 ?a96 ?i96 ?l96 ?c96 ?k96 ?a97 ?i97 ?l97 ?c97 ?k97 ?a98 ?i98 ?l98 ?c98 ?k98 ?a99 ?i99 ?l99 ?c99 ?k99 ?a100 ?i100 ?l100 ?c100 ?k100 ?a101 ?i101 ?l101 ?c101 ?k101 ?a102 ?i102 ?l102 ?c102 ?k102 ?a103 ?i103 ?l103 ?c103 ?k103 ?a104 ?i104 ?l104 ?c104 ?k104 ?a105 ?i105 ?l105 ?c105 ?k105 ?a106 ?i106 ?l106 ?c106 ?k106 ?a107 ?i107 ?l107 ?c107 ?k107 ?a108 ?i108 ?l108 ?c108 ?k108 ?a109 ?i109 ?l109 ?c109 ?k109 ?a110 ?i110 ?l110 ?c110 ?k110 ?a111 ?i111 ?l111 ?c111 ?k111 ?a112 ?i112 ?l112 ?c112 ?k112 ?a113 ?i113 ?l113 ?c113 ?k113 ?a114 ?l114 ?c114 ?k114 ?a115 ?l115 ?c115 ?k115 ?a116 ?l116 ?c116 ?k116 ?a117 ?l117 ?c117 ?k117 ?a118 ?l118 ?c118 ?k118 ?a119 ?l119 ?c119 ?k119 ?a120 ?l120 ?c120 ?k120 ?a121 ?l121 ?c121 ?k121 ?a122 ?l122 ?c122 ?k122 ?a123 ?l123 ?c123 ?k123 ?a124 ?l124 ?c124 ?k124 ?a125 ?l125 ?c125 ?k125 ?a126 ?l126 ?c126 ?k126 ?a127 ?l127 ?c127 ?k127 ?pg_Books ?hd_Books ?po_Books ?sa_Books ?mi_Books ?kc_Books ?na_Books_shelves ?na_Books_trail ?pg_Seat ?hd_Seat ?po_Seat ?sa_Seat ?mi_Seat ?kc_Seat ?na_Seat_state ?na_Seat_since ?na_Seat_pledge ?na_Seat_given ?na_Seat_drawn ?na_Seat_shared ?na_Seat_pledge_stakes ?pg_Circle ?hd_Circle ?po_Circle ?sa_Circle ?mi_Circle ?kc_Circle ?na_Circle_line ?na_Circle_stake ?na_Circle_first_pledges ?na_Circle_wishes ?na_Circle_bidding ?na_Circle_seats ?na_Circle_open_round ?na_Circle_rests_due ?na_Circle_chest ?na_Circle_flows ?pg_Table ?hd_Table ?po_Table ?sa_Table ?mi_Table ?kc_Table ?na_Table_sitters ?na_Table_circle ?na_Table_payments ?na_Table_offers ?na_Table_closed ?pg_House ?hd_House ?po_House ?sa_House ?mi_House ?kc_House ?na_House_books ?na_House_kept ?na_House_undone ?z0 ?z1 ?z2 ?z3 ?z4 ?z5 ?z6 ?z7 ?z8 ?z9 ?z10 ?z11 ?z12 ?z13 ?z14 ?z15 ?z16 ?z17 ?z18 ?n0 ?n1 ?n2 ?n3 ?n4 ?n5 ?n6 ?n7 ?n8 ?n9 ?n10 ?n11 ?n12 ?cc0 ?x1 ?x3 ?x5 ?x7 ?x9 ?x11 ?x13 ?x15 ?x17 ?x19 ?x21 ?x23 ?x25 ?x27 ?x29 ?x31 ?x33 ?x34 ?x35 ?x36_0 ?x36_1 ?x36_2 ?x36_3 ?x36_4 ?x36_5 ?x36_6 ?x36_7 ?x37 ?x38 ?x39 ?x40 ?x41 ?x42 ?x43 ?x44 ?x45 ?x46 ?x47 ?x48 ?x49 ?x50 ?x51 ?x52 ?x53 ?x54 ?x55 ?x56 ?x57_0 ?x57_1 ?x57_2 ?x57_3 ?x57_4 ?x57_5 ?x57_6 ?x57_7 ?x58 ?x59 ?x60 ?x61 ?x62 ?x63 ?x64 ?x65 ?x66 ?x67 ?x68 ?x69 ?x70 ?x71 ?x72 ?x73 ?x74 ?x75 ?x76 ?x77 ?x78_0 ?x78_1 ?x78_2 ?x78_3 ?x78_4 ?x78_5 ?x78_6 ?x78_7 ?x79 ?x80 ?x81 ?x82 ?x83 ?x84 ?x85 ?x86 ?x87 ?x88 ?x89 ?x90 ?x91 ?x92 ?x93 ?x94 ?x95 ?x96 ?x97 ?x98 ?x99_0 ?x99_1 ?x99_2 ?x99_3 ?x99_4 ?x99_5 ?x99_6 ?x99_7 ?x100 ?x101 ?x102 ?x103 ?x104 ?x105 ?x106 ?x107 ?x108 ?x109 ?x110 ?x111 ?x112 ?x113 ?x114 ?x115 ?x116 ?x117 ?x118 ?x119 ?x120_0 ?x120_1 ?x120_2 ?x120_3 ?x120_4 ?x120_5 ?x120_6 ?x120_7 ?x121 ?x122 ?x123 ?x124 ?x125 ?x126 ?x127 ?x128 ?x129 ?x130 ?x131 ?x132 ?x133 ?x134 ?x135 ?x136 ?x137 ?x138 ?x139 ?x140 ?x141_0 ?x141_1 ?x141_2 ?x141_3 ?x141_4 ?x141_5 ?x141_6 ?x141_7 ?x142 ?x143 ?x144 ?x145 ?x146 ?x147 ?x148 ?x149 ?x150 ?x151 ?x152 ?x153 ?x154 ?x155 ?x156 ?x157 ?x158 ?x159 ?x160 ?x161 ?x162_0 ?x162_1 ?x162_2 ?x162_3 ?x162_4 ?x162_5 ?x162_6 ?x162_7 ?x163 ?x164 ?x165 ?x166 ?x167 ?x168 ?x169 ?x170 ?x171 ?x172 ?x173 ?x174 ?x175 ?x176 ?x177 ?x178 ?x179 ?x180 ?x181 ?x182 ?x183 ?x184 ?x185 ?x186 ?x187 ?x188 ?x189 ?x190 ?x191 ?x192 ?x193 ?x194 ?x195 ?x196 ?x197 ?x198 ?mq0 ?dq0
    (case g_House => k_is); (case g_Table => k_is); (case g_Circle => k_is); (case g_Seat => k_is); (case g_Books => k_is); (case a0 => k_is); (case l0 => k_is); (case c0 => k_is); (case k0 => k_is); (case a1 => k_is); (case i1 => k_is); (case l1 => k_is); (case c1 => k_is); (case k1 => k_is); (case a2 => k_is); (case i2 => k_is); (case l2 => k_is); (case c2 => k_is); (case k2 => k_is); (case a3 => k_is); (case i3 => k_is); (case l3 => k_is); (case c3 => k_is); (case k3 => k_is); (case a4 => k_is); (case i4 => k_is); (case l4 => k_is); (case c4 => k_is); (case k4 => k_is); (case a5 => k_is); (case i5 => k_is); (case l5 => k_is); (case c5 => k_is); (case k5 => k_is); (case a6 => k_is); (case i6 => k_is); (case l6 => k_is); (case c6 => k_is); (case k6 => k_is); (case a7 => k_is); (case i7 => k_is); (case l7 => k_is); (case c7 => k_is); (case k7 => k_is); (case a8 => k_is); (case i8 => k_is); (case l8 => k_is); (case c8 => k_is); (case k8 => k_is); (case a9 => k_is); (case i9 => k_is); (case l9 => k_is); (case c9 => k_is); (case k9 => k_is); (case a10 => k_is); (case i10 => k_is); (case l10 => k_is); (case c10 => k_is); (case k10 => k_is); (case a11 => k_is); (case i11 => k_is); (case l11 => k_is); (case c11 => k_is); (case k11 => k_is); (case a12 => k_is); (case i12 => k_is); (case l12 => k_is); (case c12 => k_is); (case k12 => k_is); (case a13 => k_is); (case i13 => k_is); (case l13 => k_is); (case c13 => k_is); (case k13 => k_is); (case a14 => k_is); (case i14 => k_is); (case l14 => k_is); (case c14 => k_is); (case k14 => k_is); (case a15 => k_is); (case i15 => k_is); (case l15 => k_is); (case c15 => k_is); (case k15 => k_is); (case a16 => k_is); (case i16 => k_is); (case l16 => k_is); (case c16 => k_is); (case k16 => k_is); (case a17 => k_is); (case i17 => k_is); (case l17 => k_is); (case c17 => k_is); (case k17 => k_is); (case a18 => k_is); (case i18 => k_is); (case l18 => k_is); (case c18 => k_is); (case k18 => k_is); (case a19 => k_is); (case l19 => k_is); (case c19 => k_is); (case k19 => k_is); (case a20 => k_is); (case l20 => k_is); (case c20 => k_is); (case k20 => k_is); (case a21 => k_is); (case l21 => k_is); (case c21 => k_is); (case k21 => k_is); (case a22 => k_is); (case l22 => k_is); (case c22 => k_is); (case k22 => k_is); (case a23 => k_is); (case l23 => k_is); (case c23 => k_is); (case k23 => k_is); (case a24 => k_is); (case l24 => k_is); (case c24 => k_is); (case k24 => k_is); (case a25 => k_is); (case l25 => k_is); (case c25 => k_is); (case k25 => k_is); (case a26 => k_is); (case l26 => k_is); (case c26 => k_is); (case k26 => k_is); (case a27 => k_is); (case l27 => k_is); (case c27 => k_is); (case k27 => k_is); (case a28 => k_is); (case i28 => k_is); (case l28 => k_is); (case c28 => k_is); (case k28 => k_is); (case a29 => k_is); (case i29 => k_is); (case l29 => k_is); (case c29 => k_is); (case k29 => k_is); (case a30 => k_is); (case i30 => k_is); (case l30 => k_is); (case c30 => k_is); (case k30 => k_is); (case e30 => k_is); (case a31 => k_is); (case i31 => k_is); (case l31 => k_is); (case c31 => k_is); (case k31 => k_is); (case a32 => k_is); (case i32 => k_is); (case l32 => k_is); (case c32 => k_is); (case k32 => k_is); (case a33 => k_is); (case i33 => k_is); (case l33 => k_is); (case c33 => k_is); (case k33 => k_is); (case a34 => k_is); (case i34 => k_is); (case l34 => k_is); (case c34 => k_is); (case k34 => k_is); (case a35 => k_is); (case i35 => k_is); (case l35 => k_is); (case c35 => k_is); (case k35 => k_is); (case a36 => k_is); (case i36 => k_is); (case l36 => k_is); (case c36 => k_is); (case k36 => k_is); (case a37 => k_is); (case i37 => k_is); (case l37 => k_is); (case c37 => k_is); (case k37 => k_is); (case a38 => k_is); (case i38 => k_is); (case l38 => k_is); (case c38 => k_is); (case k38 => k_is); (case a39 => k_is); (case i39 => k_is); (case l39 => k_is); (case c39 => k_is); (case k39 => k_is); (case a40 => k_is); (case i40 => k_is); (case l40 => k_is); (case c40 => k_is); (case k40 => k_is); (case a41 => k_is); (case i41 => k_is); (case l41 => k_is); (case c41 => k_is); (case k41 => k_is); (case a42 => k_is); (case i42 => k_is); (case l42 => k_is); (case c42 => k_is); (case k42 => k_is); (case a43 => k_is); (case i43 => k_is); (case l43 => k_is); (case c43 => k_is); (case k43 => k_is); (case a44 => k_is); (case i44 => k_is); (case l44 => k_is); (case c44 => k_is); (case k44 => k_is); (case a45 => k_is); (case i45 => k_is); (case l45 => k_is); (case c45 => k_is); (case k45 => k_is); (case a46 => k_is); (case i46 => k_is); (case l46 => k_is); (case c46 => k_is); (case k46 => k_is); (case a47 => k_is); (case i47 => k_is); (case l47 => k_is); (case c47 => k_is); (case k47 => k_is); (case a48 => k_is); (case i48 => k_is); (case l48 => k_is); (case c48 => k_is); (case k48 => k_is); (case a49 => k_is); (case i49 => k_is); (case l49 => k_is); (case c49 => k_is); (case k49 => k_is); (case a50 => k_is); (case i50 => k_is); (case l50 => k_is); (case c50 => k_is); (case k50 => k_is); (case a51 => k_is); (case i51 => k_is); (case l51 => k_is); (case c51 => k_is); (case k51 => k_is); (case a52 => k_is); (case i52 => k_is); (case l52 => k_is); (case c52 => k_is); (case k52 => k_is); (case a53 => k_is); (case i53 => k_is); (case l53 => k_is); (case c53 => k_is); (case k53 => k_is); (case a54 => k_is); (case i54 => k_is); (case l54 => k_is); (case c54 => k_is); (case k54 => k_is); (case a55 => k_is); (case i55 => k_is); (case l55 => k_is); (case c55 => k_is); (case k55 => k_is); (case a56 => k_is); (case i56 => k_is); (case l56 => k_is); (case c56 => k_is); (case k56 => k_is); (case a57 => k_is); (case l57 => k_is); (case c57 => k_is); (case k57 => k_is); (case a58 => k_is); (case l58 => k_is); (case c58 => k_is); (case k58 => k_is); (case a59 => k_is); (case l59 => k_is); (case c59 => k_is); (case k59 => k_is); (case a60 => k_is); (case i60 => k_is); (case l60 => k_is); (case c60 => k_is); (case k60 => k_is); (case a61 => k_is); (case i61 => k_is); (case l61 => k_is); (case c61 => k_is); (case k61 => k_is); (case a62 => k_is); (case i62 => k_is); (case l62 => k_is); (case c62 => k_is); (case k62 => k_is); (case a63 => k_is); (case i63 => k_is); (case l63 => k_is); (case c63 => k_is); (case k63 => k_is); (case a64 => k_is); (case i64 => k_is); (case l64 => k_is); (case c64 => k_is); (case k64 => k_is); (case a65 => k_is); (case i65 => k_is); (case l65 => k_is); (case c65 => k_is); (case k65 => k_is); (case a66 => k_is); (case i66 => k_is); (case l66 => k_is); (case c66 => k_is); (case k66 => k_is); (case a67 => k_is); (case i67 => k_is); (case l67 => k_is); (case c67 => k_is); (case k67 => k_is); (case a68 => k_is); (case i68 => k_is); (case l68 => k_is); (case c68 => k_is); (case k68 => k_is); (case a69 => k_is); (case i69 => k_is); (case l69 => k_is); (case c69 => k_is); (case k69 => k_is); (case a70 => k_is); (case l70 => k_is); (case c70 => k_is); (case k70 => k_is); (case a71 => k_is); (case l71 => k_is); (case c71 => k_is); (case k71 => k_is); (case a72 => k_is); (case l72 => k_is); (case c72 => k_is); (case k72 => k_is); (case a73 => k_is); (case l73 => k_is); (case c73 => k_is); (case k73 => k_is); (case a74 => k_is); (case l74 => k_is); (case c74 => k_is); (case k74 => k_is); (case a75 => k_is); (case l75 => k_is); (case c75 => k_is); (case k75 => k_is); (case a76 => k_is); (case l76 => k_is); (case c76 => k_is); (case k76 => k_is); (case a77 => k_is); (case l77 => k_is); (case c77 => k_is); (case k77 => k_is); (case a78 => k_is); (case l78 => k_is); (case c78 => k_is); (case k78 => k_is); (case a79 => k_is); (case l79 => k_is); (case c79 => k_is); (case k79 => k_is); (case a80 => k_is); (case l80 => k_is); (case c80 => k_is); (case k80 => k_is); (case a81 => k_is); (case l81 => k_is); (case c81 => k_is); (case k81 => k_is); (case a82 => k_is); (case l82 => k_is); (case c82 => k_is); (case k82 => k_is); (case a83 => k_is); (case l83 => k_is); (case c83 => k_is); (case k83 => k_is); (case a84 => k_is); (case l84 => k_is); (case c84 => k_is); (case k84 => k_is); (case a85 => k_is); (case i85 => k_is); (case l85 => k_is); (case c85 => k_is); (case k85 => k_is); (case a86 => k_is); (case i86 => k_is); (case l86 => k_is); (case c86 => k_is); (case k86 => k_is); (case a87 => k_is); (case i87 => k_is); (case l87 => k_is); (case c87 => k_is); (case k87 => k_is); (case a88 => k_is); (case i88 => k_is); (case l88 => k_is); (case c88 => k_is); (case k88 => k_is); (case a89 => k_is); (case i89 => k_is); (case l89 => k_is); (case c89 => k_is); (case k89 => k_is); (case a90 => k_is); (case i90 => k_is); (case l90 => k_is); (case c90 => k_is); (case k90 => k_is); (case a91 => k_is); (case i91 => k_is); (case l91 => k_is); (case c91 => k_is); (case k91 => k_is); (case a92 => k_is); (case i92 => k_is); (case l92 => k_is); (case c92 => k_is); (case k92 => k_is); (case a93 => k_is); (case i93 => k_is); (case l93 => k_is); (case c93 => k_is); (case k93 => k_is); (case a94 => k_is); (case i94 => k_is); (case l94 => k_is); (case c94 => k_is); (case k94 => k_is); (case a95 => k_is); (case i95 => k_is); (case l95 => k_is); (case c95 => k_is); (case k95 => k_is); (case a96 => k_is); (case i96 => k_is); (case l96 => k_is); (case c96 => k_is); (case k96 => k_is); (case a97 => k_is); (case i97 => k_is); (case l97 => k_is); (case c97 => k_is); (case k97 => k_is); (case a98 => k_is); (case i98 => k_is); (case l98 => k_is); (case c98 => k_is); (case k98 => k_is); (case a99 => k_is); (case i99 => k_is); (case l99 => k_is); (case c99 => k_is); (case k99 => k_is); (case a100 => k_is); (case i100 => k_is); (case l100 => k_is); (case c100 => k_is); (case k100 => k_is); (case a101 => k_is); (case i101 => k_is); (case l101 => k_is); (case c101 => k_is); (case k101 => k_is); (case a102 => k_is); (case i102 => k_is); (case l102 => k_is); (case c102 => k_is); (case k102 => k_is); (case a103 => k_is); (case i103 => k_is); (case l103 => k_is); (case c103 => k_is); (case k103 => k_is); (case a104 => k_is); (case i104 => k_is); (case l104 => k_is); (case c104 => k_is); (case k104 => k_is); (case a105 => k_is); (case i105 => k_is); (case l105 => k_is); (case c105 => k_is); (case k105 => k_is); (case a106 => k_is); (case i106 => k_is); (case l106 => k_is); (case c106 => k_is); (case k106 => k_is); (case a107 => k_is); (case i107 => k_is); (case l107 => k_is); (case c107 => k_is); (case k107 => k_is); (case a108 => k_is); (case i108 => k_is); (case l108 => k_is); (case c108 => k_is); (case k108 => k_is); (case a109 => k_is); (case i109 => k_is); (case l109 => k_is); (case c109 => k_is); (case k109 => k_is); (case a110 => k_is); (case i110 => k_is); (case l110 => k_is); (case c110 => k_is); (case k110 => k_is); (case a111 => k_is); (case i111 => k_is); (case l111 => k_is); (case c111 => k_is); (case k111 => k_is); (case a112 => k_is); (case i112 => k_is); (case l112 => k_is); (case c112 => k_is); (case k112 => k_is); (case a113 => k_is); (case i113 => k_is); (case l113 => k_is); (case c113 => k_is); (case k113 => k_is); (case a114 => k_is); (case l114 => k_is); (case c114 => k_is); (case k114 => k_is); (case a115 => k_is); (case l115 => k_is); (case c115 => k_is); (case k115 => k_is); (case a116 => k_is); (case l116 => k_is); (case c116 => k_is); (case k116 => k_is); (case a117 => k_is); (case l117 => k_is); (case c117 => k_is); (case k117 => k_is); (case a118 => k_is); (case l118 => k_is); (case c118 => k_is); (case k118 => k_is); (case a119 => k_is); (case l119 => k_is); (case c119 => k_is); (case k119 => k_is); (case a120 => k_is); (case l120 => k_is); (case c120 => k_is); (case k120 => k_is); (case a121 => k_is); (case l121 => k_is); (case c121 => k_is); (case k121 => k_is); (case a122 => k_is); (case l122 => k_is); (case c122 => k_is); (case k122 => k_is); (case a123 => k_is); (case l123 => k_is); (case c123 => k_is); (case k123 => k_is); (case a124 => k_is); (case l124 => k_is); (case c124 => k_is); (case k124 => k_is); (case a125 => k_is); (case l125 => k_is); (case c125 => k_is); (case k125 => k_is); (case a126 => k_is); (case l126 => k_is); (case c126 => k_is); (case k126 => k_is); (case a127 => k_is); (case l127 => k_is); (case c127 => k_is); (case k127 => k_is); (case pg_Books => k_is); (case hd_Books => k_is); (case po_Books => k_is); (case sa_Books => k_is); (case mi_Books => k_is); (case kc_Books => k_is); (case na_Books_shelves => k_is); (case na_Books_trail => k_is); (case pg_Seat => k_is); (case hd_Seat => k_is); (case po_Seat => k_is); (case sa_Seat => k_is); (case mi_Seat => k_is); (case kc_Seat => k_is); (case na_Seat_state => k_is); (case na_Seat_since => k_is); (case na_Seat_pledge => k_is); (case na_Seat_given => k_is); (case na_Seat_drawn => k_is); (case na_Seat_shared => k_is); (case na_Seat_pledge_stakes => k_is); (case pg_Circle => k_is); (case hd_Circle => k_is); (case po_Circle => k_is); (case sa_Circle => k_is); (case mi_Circle => k_is); (case kc_Circle => k_is); (case na_Circle_line => k_is); (case na_Circle_stake => k_is); (case na_Circle_first_pledges => k_is); (case na_Circle_wishes => k_is); (case na_Circle_bidding => k_is); (case na_Circle_seats => k_is); (case na_Circle_open_round => k_is); (case na_Circle_rests_due => k_is); (case na_Circle_chest => k_is); (case na_Circle_flows => k_is); (case pg_Table => k_is); (case hd_Table => k_is); (case po_Table => k_is); (case sa_Table => k_is); (case mi_Table => k_is); (case kc_Table => k_is); (case na_Table_sitters => k_is); (case na_Table_circle => k_is); (case na_Table_payments => k_is); (case na_Table_offers => k_is); (case na_Table_closed => k_is); (case pg_House => k_is); (case hd_House => k_is); (case po_House => k_is); (case sa_House => k_is); (case mi_House => k_is); (case kc_House => k_is); (case na_House_books => k_is); (case na_House_kept => k_is); (case na_House_undone => k_is); (case z0 => k_is); (case z1 => k_is); (case z2 => k_is); (case z3 => k_is); (case z4 => k_is); (case z5 => k_is); (case z6 => k_is); (case z7 => k_is); (case z8 => k_is); (case z9 => k_is); (case z10 => k_is); (case z11 => k_is); (case z12 => k_is); (case z13 => k_is); (case z14 => k_is); (case z15 => k_is); (case z16 => k_is); (case z17 => k_is); (case z18 => k_is); (case n0 => k_is); (case n1 => k_is); (case n2 => k_is); (case n3 => k_is); (case n4 => k_is); (case n5 => k_is); (case n6 => k_is); (case n7 => k_is); (case n8 => k_is); (case n9 => k_is); (case n10 => k_is); (case n11 => k_is); (case n12 => k_is); (case cc0 => rfl); (case x1 => first | k_is | k_exc | rfl); (case x3 => first | k_is | k_exc | rfl); (case x5 => first | k_is | k_exc | rfl); (case x7 => first | k_is | k_exc | rfl); (case x9 => first | k_is | k_exc | rfl); (case x11 => first | k_is | k_exc | rfl); (case x13 => first | k_is | k_exc | rfl); (case x15 => first | k_is | k_exc | rfl); (case x17 => first | k_is | k_exc | rfl); (case x19 => first | k_is | k_exc | rfl); (case x21 => first | k_is | k_exc | rfl); (case x23 => first | k_is | k_exc | rfl); (case x25 => first | k_is | k_exc | rfl); (case x27 => first | k_is | k_exc | rfl); (case x29 => first | k_is | k_exc | rfl); (case x31 => first | k_is | k_exc | rfl); (case x33 => first | k_is | k_exc | rfl); (case x34 => first | k_is | k_exc | rfl); (case x35 => first | k_is | k_exc | rfl); (case x36_0 => first | k_is | k_exc | rfl); (case x36_1 => first | k_is | k_exc | rfl); (case x36_2 => first | k_is | k_exc | rfl); (case x36_3 => first | k_is | k_exc | rfl); (case x36_4 => first | k_is | k_exc | rfl); (case x36_5 => first | k_is | k_exc | rfl); (case x36_6 => first | k_is | k_exc | rfl); (case x36_7 => first | k_is | k_exc | rfl); (case x37 => first | k_is | k_exc | rfl); (case x38 => first | k_is | k_exc | rfl); (case x39 => first | k_is | k_exc | rfl); (case x40 => first | k_is | k_exc | rfl); (case x41 => first | k_is | k_exc | rfl); (case x42 => first | k_is | k_exc | rfl); (case x43 => first | k_is | k_exc | rfl); (case x44 => first | k_is | k_exc | rfl); (case x45 => first | k_is | k_exc | rfl); (case x46 => first | k_is | k_exc | rfl); (case x47 => first | k_is | k_exc | rfl); (case x48 => first | k_is | k_exc | rfl); (case x49 => first | k_is | k_exc | rfl); (case x50 => first | k_is | k_exc | rfl); (case x51 => first | k_is | k_exc | rfl); (case x52 => first | k_is | k_exc | rfl); (case x53 => first | k_is | k_exc | rfl); (case x54 => first | k_is | k_exc | rfl); (case x55 => first | k_is | k_exc | rfl); (case x56 => first | k_is | k_exc | rfl); (case x57_0 => first | k_is | k_exc | rfl); (case x57_1 => first | k_is | k_exc | rfl); (case x57_2 => first | k_is | k_exc | rfl); (case x57_3 => first | k_is | k_exc | rfl); (case x57_4 => first | k_is | k_exc | rfl); (case x57_5 => first | k_is | k_exc | rfl); (case x57_6 => first | k_is | k_exc | rfl); (case x57_7 => first | k_is | k_exc | rfl); (case x58 => first | k_is | k_exc | rfl); (case x59 => first | k_is | k_exc | rfl); (case x60 => first | k_is | k_exc | rfl); (case x61 => first | k_is | k_exc | rfl); (case x62 => first | k_is | k_exc | rfl); (case x63 => first | k_is | k_exc | rfl); (case x64 => first | k_is | k_exc | rfl); (case x65 => first | k_is | k_exc | rfl); (case x66 => first | k_is | k_exc | rfl); (case x67 => first | k_is | k_exc | rfl); (case x68 => first | k_is | k_exc | rfl); (case x69 => first | k_is | k_exc | rfl); (case x70 => first | k_is | k_exc | rfl); (case x71 => first | k_is | k_exc | rfl); (case x72 => first | k_is | k_exc | rfl); (case x73 => first | k_is | k_exc | rfl); (case x74 => first | k_is | k_exc | rfl); (case x75 => first | k_is | k_exc | rfl); (case x76 => first | k_is | k_exc | rfl); (case x77 => first | k_is | k_exc | rfl); (case x78_0 => first | k_is | k_exc | rfl); (case x78_1 => first | k_is | k_exc | rfl); (case x78_2 => first | k_is | k_exc | rfl); (case x78_3 => first | k_is | k_exc | rfl); (case x78_4 => first | k_is | k_exc | rfl); (case x78_5 => first | k_is | k_exc | rfl); (case x78_6 => first | k_is | k_exc | rfl); (case x78_7 => first | k_is | k_exc | rfl); (case x79 => first | k_is | k_exc | rfl); (case x80 => first | k_is | k_exc | rfl); (case x81 => first | k_is | k_exc | rfl); (case x82 => first | k_is | k_exc | rfl); (case x83 => first | k_is | k_exc | rfl); (case x84 => first | k_is | k_exc | rfl); (case x85 => first | k_is | k_exc | rfl); (case x86 => first | k_is | k_exc | rfl); (case x87 => first | k_is | k_exc | rfl); (case x88 => first | k_is | k_exc | rfl); (case x89 => first | k_is | k_exc | rfl); (case x90 => first | k_is | k_exc | rfl); (case x91 => first | k_is | k_exc | rfl); (case x92 => first | k_is | k_exc | rfl); (case x93 => first | k_is | k_exc | rfl); (case x94 => first | k_is | k_exc | rfl); (case x95 => first | k_is | k_exc | rfl); (case x96 => first | k_is | k_exc | rfl); (case x97 => first | k_is | k_exc | rfl); (case x98 => first | k_is | k_exc | rfl); (case x99_0 => first | k_is | k_exc | rfl); (case x99_1 => first | k_is | k_exc | rfl); (case x99_2 => first | k_is | k_exc | rfl); (case x99_3 => first | k_is | k_exc | rfl); (case x99_4 => first | k_is | k_exc | rfl); (case x99_5 => first | k_is | k_exc | rfl); (case x99_6 => first | k_is | k_exc | rfl); (case x99_7 => first | k_is | k_exc | rfl); (case x100 => first | k_is | k_exc | rfl); (case x101 => first | k_is | k_exc | rfl); (case x102 => first | k_is | k_exc | rfl); (case x103 => first | k_is | k_exc | rfl); (case x104 => first | k_is | k_exc | rfl); (case x105 => first | k_is | k_exc | rfl); (case x106 => first | k_is | k_exc | rfl); (case x107 => first | k_is | k_exc | rfl); (case x108 => first | k_is | k_exc | rfl); (case x109 => first | k_is | k_exc | rfl); (case x110 => first | k_is | k_exc | rfl); (case x111 => first | k_is | k_exc | rfl); (case x112 => first | k_is | k_exc | rfl); (case x113 => first | k_is | k_exc | rfl); (case x114 => first | k_is | k_exc | rfl); (case x115 => first | k_is | k_exc | rfl); (case x116 => first | k_is | k_exc | rfl); (case x117 => first | k_is | k_exc | rfl); (case x118 => first | k_is | k_exc | rfl); (case x119 => first | k_is | k_exc | rfl); (case x120_0 => first | k_is | k_exc | rfl); (case x120_1 => first | k_is | k_exc | rfl); (case x120_2 => first | k_is | k_exc | rfl); (case x120_3 => first | k_is | k_exc | rfl); (case x120_4 => first | k_is | k_exc | rfl); (case x120_5 => first | k_is | k_exc | rfl); (case x120_6 => first | k_is | k_exc | rfl); (case x120_7 => first | k_is | k_exc | rfl); (case x121 => first | k_is | k_exc | rfl); (case x122 => first | k_is | k_exc | rfl); (case x123 => first | k_is | k_exc | rfl); (case x124 => first | k_is | k_exc | rfl); (case x125 => first | k_is | k_exc | rfl); (case x126 => first | k_is | k_exc | rfl); (case x127 => first | k_is | k_exc | rfl); (case x128 => first | k_is | k_exc | rfl); (case x129 => first | k_is | k_exc | rfl); (case x130 => first | k_is | k_exc | rfl); (case x131 => first | k_is | k_exc | rfl); (case x132 => first | k_is | k_exc | rfl); (case x133 => first | k_is | k_exc | rfl); (case x134 => first | k_is | k_exc | rfl); (case x135 => first | k_is | k_exc | rfl); (case x136 => first | k_is | k_exc | rfl); (case x137 => first | k_is | k_exc | rfl); (case x138 => first | k_is | k_exc | rfl); (case x139 => first | k_is | k_exc | rfl); (case x140 => first | k_is | k_exc | rfl); (case x141_0 => first | k_is | k_exc | rfl); (case x141_1 => first | k_is | k_exc | rfl); (case x141_2 => first | k_is | k_exc | rfl); (case x141_3 => first | k_is | k_exc | rfl); (case x141_4 => first | k_is | k_exc | rfl); (case x141_5 => first | k_is | k_exc | rfl); (case x141_6 => first | k_is | k_exc | rfl); (case x141_7 => first | k_is | k_exc | rfl); (case x142 => first | k_is | k_exc | rfl); (case x143 => first | k_is | k_exc | rfl); (case x144 => first | k_is | k_exc | rfl); (case x145 => first | k_is | k_exc | rfl); (case x146 => first | k_is | k_exc | rfl); (case x147 => first | k_is | k_exc | rfl); (case x148 => first | k_is | k_exc | rfl); (case x149 => first | k_is | k_exc | rfl); (case x150 => first | k_is | k_exc | rfl); (case x151 => first | k_is | k_exc | rfl); (case x152 => first | k_is | k_exc | rfl); (case x153 => first | k_is | k_exc | rfl); (case x154 => first | k_is | k_exc | rfl); (case x155 => first | k_is | k_exc | rfl); (case x156 => first | k_is | k_exc | rfl); (case x157 => first | k_is | k_exc | rfl); (case x158 => first | k_is | k_exc | rfl); (case x159 => first | k_is | k_exc | rfl); (case x160 => first | k_is | k_exc | rfl); (case x161 => first | k_is | k_exc | rfl); (case x162_0 => first | k_is | k_exc | rfl); (case x162_1 => first | k_is | k_exc | rfl); (case x162_2 => first | k_is | k_exc | rfl); (case x162_3 => first | k_is | k_exc | rfl); (case x162_4 => first | k_is | k_exc | rfl); (case x162_5 => first | k_is | k_exc | rfl); (case x162_6 => first | k_is | k_exc | rfl); (case x162_7 => first | k_is | k_exc | rfl); (case x163 => first | k_is | k_exc | rfl); (case x164 => first | k_is | k_exc | rfl); (case x165 => first | k_is | k_exc | rfl); (case x166 => first | k_is | k_exc | rfl); (case x167 => first | k_is | k_exc | rfl); (case x168 => first | k_is | k_exc | rfl); (case x169 => first | k_is | k_exc | rfl); (case x170 => first | k_is | k_exc | rfl); (case x171 => first | k_is | k_exc | rfl); (case x172 => first | k_is | k_exc | rfl); (case x173 => first | k_is | k_exc | rfl); (case x174 => first | k_is | k_exc | rfl); (case x175 => first | k_is | k_exc | rfl); (case x176 => first | k_is | k_exc | rfl); (case x177 => first | k_is | k_exc | rfl); (case x178 => first | k_is | k_exc | rfl); (case x179 => first | k_is | k_exc | rfl); (case x180 => first | k_is | k_exc | rfl); (case x181 => first | k_is | k_exc | rfl); (case x182 => first | k_is | k_exc | rfl); (case x183 => first | k_is | k_exc | rfl); (case x184 => first | k_is | k_exc | rfl); (case x185 => first | k_is | k_exc | rfl); (case x186 => first | k_is | k_exc | rfl); (case x187 => first | k_is | k_exc | rfl); (case x188 => first | k_is | k_exc | rfl); (case x189 => first | k_is | k_exc | rfl); (case x190 => first | k_is | k_exc | rfl); (case x191 => first | k_is | k_exc | rfl); (case x192 => first | k_is | k_exc | rfl); (case x193 => first | k_is | k_exc | rfl); (case x194 => first | k_is | k_exc | rfl); (case x195 => first | k_is | k_exc | rfl); (case x196 => first | k_is | k_exc | rfl); (case x197 => first | k_is | k_exc | rfl); (case x198 => first | k_is | k_exc | rfl); (case mq0 => k_is); (case dq0 => refine' Su.modd_mk ?l ?k ?f ?o; (case l => k_is); (case k => k_keys); (case f => exact ⟨⟨_, rfl⟩, rfl, ⟨⟨_, rfl⟩, rfl, ⟨⟨_, rfl⟩, rfl, ⟨⟨_, rfl⟩, rfl, ⟨⟨_, rfl⟩, rfl, ⟨⟨_, rfl⟩, rfl, ⟨⟨_, rfl⟩, rfl, ⟨⟨_, rfl⟩, rfl, ⟨⟨_, rfl⟩, rfl, ⟨⟨_, rfl⟩, rfl, trivial⟩⟩⟩⟩⟩⟩⟩⟩⟩⟩); (case o => rfl))

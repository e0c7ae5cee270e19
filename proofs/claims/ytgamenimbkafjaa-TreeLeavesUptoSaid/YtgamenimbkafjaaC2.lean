/- Check and Sound of package tree; answers of the laws. Condition: the node lies in memory; what isFormed answers of each node is handed in. -/
import Derived.Test.YtgamenimbkafjaaC1
import Derived.Test.YtgamenimbkafjaaF12
namespace Go.Proofs.Ytgamenimbkafjaa
open Go.RowKit Go.Shelf
set_option linter.unusedVariables false
set_option linter.unusedSimpArgs false

/-- The number that is answered of a node of a sort. -/
noncomputable def soundV (p : Int → Bool) (R : Nat) (T : Nd) : Int := errOf (p T.k && okL (flatN R 0 T))
theorem lies_k {w : World} {R : Nat} {T : Nd} {h : Hn} (hl : Lies w A0 R T h) : T.k = h.k := by
  cases R with
  | zero => exact hl.elim
  | succ r => obtain ⟨K, t, _⟩ := hl; exact t.ek
theorem c_check_ty (R : Nat) (T : Nd) (h : Hn) (w : World) (hl : Lies w A0 R T h) (hM : ∀ y, y ∈ flatN R 0 T → FormsOK y.2) :
    Calls Try.prog 30 #[h.val, .func (.func 34) #[] #[]] w fun e w' => e = .returned (.int .i64 (soundV tyK R T)) ∧ Kp w w' := by
  have hk := lies_k hl
  unfold soundV
  cases ht : tyK T.k with
  | true => rw [Bool.true_and]; exact callsIn_wide.1 (check_ty 3 (by omega) R T h w hl (by rw [← hk]; exact ht) hM)
  | false => rw [Bool.false_and]; exact callsIn_wide.1 (check_ty_no 3 (by omega) h w (by rw [← hk]; exact ht))
theorem c_check_st (R : Nat) (T : Nd) (h : Hn) (w : World) (hl : Lies w A0 R T h) (hM : ∀ y, y ∈ flatN R 0 T → FormsOK y.2) :
    Calls Try.prog 30 #[h.val, .func (.func 32) #[] #[]] w fun e w' => e = .returned (.int .i64 (soundV stK R T)) ∧ Kp w w' := by
  have hk := lies_k hl
  unfold soundV
  cases ht : stK T.k with
  | true => rw [Bool.true_and]; exact callsIn_wide.1 (check_st 3 (by omega) R T h w hl (by rw [← hk]; exact ht) hM)
  | false => rw [Bool.false_and]; exact callsIn_wide.1 (check_st_no 3 (by omega) h w (by rw [← hk]; exact ht))
theorem c_check_ex (R : Nat) (T : Nd) (h : Hn) (w : World) (hl : Lies w A0 R T h) (hM : ∀ y, y ∈ flatN R 0 T → FormsOK y.2) :
    Calls Try.prog 30 #[h.val, .func (.func 33) #[] #[]] w fun e w' => e = .returned (.int .i64 (soundV exK R T)) ∧ Kp w w' := by
  have hk := lies_k hl
  unfold soundV
  cases ht : exK T.k with
  | true => rw [Bool.true_and]; exact callsIn_wide.1 (check_ex 3 (by omega) R T h w hl (by rw [← hk]; exact ht) hM)
  | false => rw [Bool.false_and]; exact callsIn_wide.1 (check_ex_no 3 (by omega) h w (by rw [← hk]; exact ht))
theorem c_check_of (R : Nat) (T : Nd) (h : Hn) (w : World) (hl : Lies w A0 R T h) (pb : Nat) (L : List Int) (ho : OfAt w pb L) (hM : ∀ y, y ∈ flatN R 0 T → FormsOK y.2) :
    Calls Try.prog 30 #[h.val, .func (.func 41) #[] #[.pointer (some ⟨pb, 0, none⟩)]] w fun e w' => e = .returned (.int .i64 (soundV (inK L) R T)) ∧ Kp w w' := by
  have hk := lies_k hl
  unfold soundV
  cases ht : inK L T.k with
  | true => rw [Bool.true_and]; exact callsIn_wide.1 (check_of 3 (by omega) R T h w hl pb L ho (by rw [← hk]; exact ht) hM)
  | false => rw [Bool.false_and]; exact callsIn_wide.1 (check_of_no 3 (by omega) h w pb L ho (by rw [← hk]; exact ht))
theorem ofAt1 {cur : World} {p q c : Nat} {a : Int} (h1 : cur.cell? ⟨p, 0, none⟩ = some (.slice (some ⟨q, 0, none⟩) 1 c)) (h2 : cur.cell? ⟨q, 0, none⟩ = some (.int .i64 a)) : OfAt cur p [a] := by
  refine ⟨some ⟨q, 0, none⟩, c, h1, ⟨fun h => (by cases h), fun hn => ⟨q, 0, rfl, trivial, lt_of_cell h2, fun h => h.elim, fun i hi j v hv => ?_⟩⟩, by simp⟩
  obtain rfl : i = 0 := by simp at hi; omega
  cases j with
  | succ j => simp at hv
  | zero =>
    simp only [List.getElem?_cons_zero, Option.some.injEq] at hv
    subst hv
    simpa [fnI] using h2
set_option maxHeartbeats 6400000 in
set_option maxRecDepth 100000 in
theorem c_Check (R : Nat) (T : Nd) (h : Hn) (w : World) (hl : Lies w A0 R T h) (hM : ∀ y, y ∈ flatN R 0 T → FormsOK y.2) :
    Calls Try.prog 13 #[h.val] w fun e w' => e = .returned (.int .i64 (soundV (inK [1]) R T)) ∧ Kp w w' := by
  have hmf : ∀ (fn : Fn) (first cap : Array Value) (w : World), (Instr.makeFunc fn first cap).run Try.prog w = .ok (.func fn first cap) w := fun _ _ _ _ => rfl
  have HL := Lib.hid hl
  have HM := Lib.hid hM
  clear hl hM
  obtain ⟨b0, b1, b2, b3, b4, bs⟩ := boxed (w := w) (h := h) (e := 25) (Kp.refl _)
  have hkeep := Lib.hid (fun (W' : World) (hk : Kp (w.alloc (.cells #[.int .i64 h.k, .string h.tx, .int .u64 h.n, .int .i64 h.at_, .slice h.la h.ll h.lc] 25)) W') => (⟨hk.cellv b0, hk.cellv b1, hk.cellv b2, hk.cellv b3, hk.cellv b4⟩ : (fun w' : World => w'.cell? ⟨w.heap.size, 0, none⟩ = some (.int .i64 h.k) ∧ w'.cell? ⟨w.heap.size, 1, none⟩ = some (.string h.tx) ∧ w'.cell? ⟨w.heap.size, 2, none⟩ = some (.int .u64 h.n) ∧ w'.cell? ⟨w.heap.size, 3, none⟩ = some (.int .i64 h.at_) ∧ w'.cell? ⟨w.heap.size, 4, none⟩ = some (.slice h.la h.ll h.lc)) W'))
  go_enter Try.func13, Try.ntmps13
  go_wp2_with fail
  go_region_held3 (fun w' => w'.cell? ⟨w.heap.size, 0, none⟩ = some (.int .i64 h.k) ∧ w'.cell? ⟨w.heap.size, 1, none⟩ = some (.string h.tx) ∧ w'.cell? ⟨w.heap.size, 2, none⟩ = some (.int .u64 h.n) ∧ w'.cell? ⟨w.heap.size, 3, none⟩ = some (.int .i64 h.at_) ∧ w'.cell? ⟨w.heap.size, 4, none⟩ = some (.slice h.la h.ll h.lc))
    (first | exact hkeep.out _ (by (repeat (first | with_reducible exact Kp.refl _ | with_reducible refine Kp.alloc ?_ _ | with_reducible refine Kp.drew ?_ | with_reducible refine Kp.back hk1 ?_))))
    ((first | (go_at_call 31; (with_reducible refine (c_of _ _ _ _).mono ?_); rintro e w' ⟨rfl, rfl⟩) | (go_at_call 30; refine (c_check_of R T h _ (HL.out.keep (by (repeat (first | with_reducible exact Kp.refl _ | with_reducible refine Kp.alloc ?_ _ | with_reducible refine Kp.drew ?_ | with_reducible refine Kp.back hk1 ?_)))) (w.heap.size + 1 + 1) [1] (ofAt1 (q := w.heap.size + 1) (c := 1) (by simp [go_sem]) (by simp [go_sem])) HM.out).mono ?_; rintro e w1 ⟨rfl, hk1⟩)))
  go_wp2_with fail
  go_ret
  refine ⟨rfl, ?_⟩
  (repeat (first | with_reducible exact Kp.refl _ | with_reducible refine Kp.alloc ?_ _ | with_reducible refine Kp.drew ?_ | with_reducible refine Kp.back hk1 ?_))
set_option maxHeartbeats 1600000 in
theorem c_Sound1 (R : Nat) (T : Nd) (h : Hn) (w : World) (hl : Lies w A0 R T h) (hM : ∀ y, y ∈ flatN R 0 T → FormsOK y.2) :
    Calls Try.prog 15 #[h.val, .int .i64 1] w fun e w' => e = .returned (.int .i64 (soundV stK R T)) ∧ Kp w w' := by
  have HC := Lib.hid (fun w' hk => c_check_st R T h w' (hl.keep hk) hM)
  clear hl hM
  go_enter Try.func15, Try.ntmps15
  go_wp2_with (first | (go_at_call 30; refine (HC.out _ ((Kp.refl w).alloc _)).mono ?_; rintro e w1 ⟨rfl, hk⟩))
  go_ret
  exact ⟨rfl, ((Kp.refl w).alloc _).trans hk⟩
set_option maxHeartbeats 1600000 in
theorem c_Sound2 (R : Nat) (T : Nd) (h : Hn) (w : World) (hl : Lies w A0 R T h) (hM : ∀ y, y ∈ flatN R 0 T → FormsOK y.2) :
    Calls Try.prog 15 #[h.val, .int .i64 2] w fun e w' => e = .returned (.int .i64 (soundV exK R T)) ∧ Kp w w' := by
  have HC := Lib.hid (fun w' hk => c_check_ex R T h w' (hl.keep hk) hM)
  clear hl hM
  go_enter Try.func15, Try.ntmps15
  go_wp2_with (first | (go_at_call 30; refine (HC.out _ ((Kp.refl w).alloc _)).mono ?_; rintro e w1 ⟨rfl, hk⟩))
  go_ret
  exact ⟨rfl, ((Kp.refl w).alloc _).trans hk⟩
set_option maxHeartbeats 1600000 in
theorem c_Sound3 (R : Nat) (T : Nd) (h : Hn) (w : World) (hl : Lies w A0 R T h) (hM : ∀ y, y ∈ flatN R 0 T → FormsOK y.2) :
    Calls Try.prog 15 #[h.val, .int .i64 3] w fun e w' => e = .returned (.int .i64 (soundV tyK R T)) ∧ Kp w w' := by
  have HC := Lib.hid (fun w' hk => c_check_ty R T h w' (hl.keep hk) hM)
  clear hl hM
  go_enter Try.func15, Try.ntmps15
  go_wp2_with (first | (go_at_call 30; refine (HC.out _ ((Kp.refl w).alloc _)).mono ?_; rintro e w1 ⟨rfl, hk⟩))
  go_ret
  exact ⟨rfl, ((Kp.refl w).alloc _).trans hk⟩
set_option maxHeartbeats 1600000 in
theorem c_SoundX (h : Hn) (s : Int) (w : World) (h1 : s ≠ 1) (h2 : s ≠ 2) (h3 : s ≠ 3) :
    Calls Try.prog 15 #[h.val, .int .i64 s] w fun e w' => e = .returned (.int .i64 2) ∧ Kp w w' := by
  have e1 : (s == 1) = false := beq_eq_false_iff_ne.2 h1
  have e2 : (s == 2) = false := beq_eq_false_iff_ne.2 h2
  have e3 : (s == 3) = false := beq_eq_false_iff_ne.2 h3
  clear h1 h2 h3
  go_enter Try.func15, Try.ntmps15
  go_wp2_with fail
  go_ret
  exact ⟨rfl, (Kp.refl w).alloc _⟩
theorem forms_but {X : Nd} (h3 : X.k ≠ 3) : FormsOK X := fun r h w hl => c_isFormed_but r X h w hl (by rw [← lies_k hl]; exact h3)
/-- A number's node. -/
abbrev numH (n : Int) : Hn := ⟨31, ⟨#[]⟩, n, 0, none, 0, 0⟩
abbrev numT (n : Int) : Nd := .mk 31 ⟨#[]⟩ n 0 []
theorem num_lies (w : World) (n : Int) (hn : 0 ≤ n ∧ n ≤ 18446744073709551615) : Lies w A0 1 (numT n) (numH n) :=
  ⟨fun _ => numH n, ⟨rfl, rfl, rfl, rfl, rfl, by simp, hn, by simp, (show (0 : Nat) ≤ 140737488351232 by omega), by simp, by simp, tab_nil _ _ _ _ _⟩, fun i X hX => by simp [Nd.kids] at hX⟩
theorem num_flat (n : Int) : flatN 1 0 (numT n) = [(0, numT n)] := rfl
theorem num_form (n : Int) : formN (numT n) = true := by
  show (@decide ((⟨#[]⟩ : ByteArray) = ⟨#[]⟩) (Classical.propDecidable _) && areB [] []) = true
  rw [dec_yes rfl]
  rfl
theorem num_ok (n : Int) : okL (flatN 1 0 (numT n)) = true := by
  rw [num_flat]
  refine okL_yes (by simp) (fun y hy => ?_)
  obtain rfl : y = (0, numT n) := by simpa using hy
  exact ⟨by show (0 : Int) ≤ 64; decide, num_form n⟩
theorem num_forms (n : Int) : ∀ y, y ∈ flatN 1 0 (numT n) → FormsOK y.2 := fun y hy => by
  rw [num_flat] at hy
  obtain rfl : y = (0, numT n) := by simpa using hy
  exact forms_but (by show (31 : Int) ≠ 3; decide)
set_option maxHeartbeats 3200000 in
set_option maxRecDepth 100000 in
theorem c_answers (w : World) : Calls Try.prog 12 #[] w fun e w' => e = .returned (.bool true) ∧ Kp w w' := by
  have HS := Lib.hid (fun w' => (show Calls Try.prog 16 #[.agg #[.int .i64 31, .string ⟨#[]⟩, .int .u64 0, .int .i64 0, .slice none 0 0]] w' fun e w2 => e = .returned (.int .i64 (wrap64 (flatN 1 0 (numT 0)).length)) ∧ Kp w' w2 from c_Size 1 (numT 0) (numH 0) w' (num_lies w' 0 (by decide))))
  have HA := Lib.hid (fun w' => (show Calls Try.prog 15 #[.agg #[.int .i64 31, .string ⟨#[]⟩, .int .u64 5, .int .i64 0, .slice none 0 0], .int .i64 1] w' fun e w2 => e = .returned (.int .i64 (soundV stK 1 (numT 5))) ∧ Kp w' w2 from c_Sound1 1 (numT 5) (numH 5) w' (num_lies w' 5 (by decide)) (num_forms 5)))
  have HB := Lib.hid (fun w' => (show Calls Try.prog 15 #[.agg #[.int .i64 31, .string ⟨#[]⟩, .int .u64 5, .int .i64 0, .slice none 0 0], .int .i64 2] w' fun e w2 => e = .returned (.int .i64 (soundV exK 1 (numT 5))) ∧ Kp w' w2 from c_Sound2 1 (numT 5) (numH 5) w' (num_lies w' 5 (by decide)) (num_forms 5)))
  have e1 : Hid (wrap64 ((flatN 1 0 (numT 0)).length : Nat) = 1) := Lib.hid (by rw [num_flat]; show wrap64 ((1 : Nat) : Int) = 1; unfold wrap64; omega)
  have e2 : Hid (soundV stK 1 (numT 5) = 1) := Lib.hid (by unfold soundV; rw [show stK (numT 5).k = false from rfl]; rfl)
  have e3 : Hid (soundV exK 1 (numT 5) = 0) := Lib.hid (by unfold soundV; rw [num_ok]; rfl)
  go_enter Try.func12, Try.ntmps12
  go_wp2_with (first | (go_at_call 16; (with_reducible refine (HS.out _).mono ?_); rintro e w1 ⟨rfl, hk1⟩; rw [e1.out]) | (go_at_call 15; (with_reducible refine (HA.out _).mono ?_); rintro e w2 ⟨rfl, hk2⟩; rw [e2.out]) | (go_at_call 15; (with_reducible refine (HB.out _).mono ?_); rintro e w3 ⟨rfl, hk3⟩; rw [e3.out]))
  go_ret
  exact ⟨by first | rfl | (simp; done), (hk1.trans hk2).trans hk3⟩
end Go.Proofs.Ytgamenimbkafjaa

/- Which texts are operators of how many parts; lists that are few, arguments; how many defaults there are. Condition: the lists lie in memory. -/
import Derived.Test.YtgamenimbkafjaaF3
namespace Go.Proofs.Ytgamenimbkafjaa
open Go.RowKit
set_option linter.unusedVariables false
set_option linter.unusedSimpArgs false

abbrev opsA : List ByteArray := [⟨#[45]⟩, ⟨#[94]⟩]
abbrev opsN : List ByteArray := [⟨#[33]⟩]
abbrev opsT : List ByteArray := [⟨#[43]⟩, ⟨#[42]⟩, ⟨#[47]⟩, ⟨#[37]⟩, ⟨#[38]⟩, ⟨#[124]⟩, ⟨#[60, 60]⟩, ⟨#[62, 62]⟩, ⟨#[38, 94]⟩, ⟨#[38, 38]⟩, ⟨#[124, 124]⟩, ⟨#[61, 61]⟩, ⟨#[33, 61]⟩, ⟨#[60]⟩, ⟨#[60, 61]⟩, ⟨#[62]⟩, ⟨#[62, 61]⟩]
/-- Is a text an operator of so many parts? -/
noncomputable def opB (tx : ByteArray) (n : Nat) : Bool := (inB opsA tx && (decide (n = 1) || decide (n = 2))) || (inB opsN tx && decide (n = 1)) || (inB opsT tx && decide (n = 2))
theorem opB_A {tx : ByteArray} (h : tx ∈ opsA) (n : Nat) (h1 : tx ∉ opsN) (h2 : tx ∉ opsT) : opB tx n = (decide (n = 1) || decide (n = 2)) := by unfold opB; rw [inB_yes h, inB_no h1, inB_no h2]; simp
theorem opB_N {tx : ByteArray} (h : tx ∈ opsN) (n : Nat) (h1 : tx ∉ opsA) (h2 : tx ∉ opsT) : opB tx n = decide (n = 1) := by unfold opB; rw [inB_yes h, inB_no h1, inB_no h2]; simp
theorem opB_T {tx : ByteArray} (h : tx ∈ opsT) (n : Nat) (h1 : tx ∉ opsA) (h2 : tx ∉ opsN) : opB tx n = decide (n = 2) := by unfold opB; rw [inB_yes h, inB_no h1, inB_no h2]; simp
theorem opB_no {tx : ByteArray} (n : Nat) (h0 : tx ∉ opsA) (h1 : tx ∉ opsN) (h2 : tx ∉ opsT) : opB tx n = false := by unfold opB; rw [inB_no h0, inB_no h1, inB_no h2]; simp
set_option maxHeartbeats 12800000 in
set_option maxRecDepth 100000 in
theorem c_isOperator (tx : ByteArray) (n : Nat) (w : World) (hn : n ≤ 4398046511104) : Calls Try.prog 63 #[.string tx, .int .i64 n] w fun e w' => e = .returned (.bool (opB tx n)) ∧ Kp w w' := by
  have hq : n = 1 ∨ n = 2 ∨ (n ≠ 1 ∧ n ≠ 2) := by omega
  by_cases hA : tx ∈ opsA
  · rw [opB_A hA n (by intro h; simp only [opsA, opsN, List.mem_cons, List.not_mem_nil, or_false] at hA h; subst h; exact absurd hA (by decide)) (by intro h; simp only [opsA, List.mem_cons, List.not_mem_nil, or_false] at hA; rcases hA with rfl | rfl <;> exact absurd h (by simp only [opsT, List.mem_cons, List.not_mem_nil, or_false]; decide))]
    simp only [opsA, List.mem_cons, List.not_mem_nil, or_false] at hA
    rcases hq with rfl | rfl | ⟨h1, h2⟩
    · rcases hA with rfl | rfl <;> (go_enter Try.func63, Try.ntmps63; go_wp2; go_ret; exact ⟨rfl, Kp.refl w⟩)
    · rcases hA with rfl | rfl <;> (go_enter Try.func63, Try.ntmps63; go_wp2; go_ret; exact ⟨rfl, Kp.refl w⟩)
    · rw [decide_eq_false h1, decide_eq_false h2]
      have e1 : ((n : Int) == 1) = false := beq_eq_false_iff_ne.2 (by omega)
      have e2 : ((n : Int) == 2) = false := beq_eq_false_iff_ne.2 (by omega)
      clear h1 h2
      rcases hA with rfl | rfl <;> (go_enter Try.func63, Try.ntmps63; go_wp2; go_ret; exact ⟨rfl, Kp.refl w⟩)
  · by_cases hN : tx ∈ opsN
    · rw [opB_N hN n hA (by intro h; simp only [opsN, List.mem_cons, List.not_mem_nil, or_false] at hN; subst hN; exact absurd h (by simp only [opsT, List.mem_cons, List.not_mem_nil, or_false]; decide))]
      simp only [opsN, List.mem_cons, List.not_mem_nil, or_false] at hN
      clear hA
      subst hN
      by_cases h1 : n = 1
      · subst h1
        go_enter Try.func63, Try.ntmps63; go_wp2; go_ret; exact ⟨rfl, Kp.refl w⟩
      · rw [decide_eq_false h1]
        have e1 : ((n : Int) == 1) = false := beq_eq_false_iff_ne.2 (by omega)
        clear h1 hq
        go_enter Try.func63, Try.ntmps63; go_wp2; go_ret; exact ⟨rfl, Kp.refl w⟩
    · by_cases hT : tx ∈ opsT
      · rw [opB_T hT n hA hN]
        simp only [opsT, List.mem_cons, List.not_mem_nil, or_false] at hT
        clear hA hN
        by_cases h1 : n = 2
        · subst h1
          rcases hT with rfl | rfl | rfl | rfl | rfl | rfl | rfl | rfl | rfl | rfl | rfl | rfl | rfl | rfl | rfl | rfl | rfl <;> (go_enter Try.func63, Try.ntmps63; go_wp2; go_ret; exact ⟨rfl, Kp.refl w⟩)
        · rw [decide_eq_false h1]
          have e1 : ((n : Int) == 2) = false := beq_eq_false_iff_ne.2 (by omega)
          clear h1 hq
          rcases hT with rfl | rfl | rfl | rfl | rfl | rfl | rfl | rfl | rfl | rfl | rfl | rfl | rfl | rfl | rfl | rfl | rfl <;> (go_enter Try.func63, Try.ntmps63; go_wp2; go_ret; exact ⟨rfl, Kp.refl w⟩)
      · rw [opB_no n hA hN hT]
        simp only [opsA, List.mem_cons, List.not_mem_nil, or_false, not_or] at hA
        simp only [opsN, List.mem_cons, List.not_mem_nil, or_false] at hN
        simp only [opsT, List.mem_cons, List.not_mem_nil, or_false, not_or] at hT
        obtain ⟨n0, n1⟩ := hA
        have n2 := hN
        obtain ⟨n3, n4, n5, n6, n7, n8, n9, n10, n11, n12, n13, n14, n15, n16, n17, n18, n19⟩ := hT
        have e0 : (tx.toList == [45]) = false := ne_list n0
        have e1 : (tx.toList == [94]) = false := ne_list n1
        have e2 : (tx.toList == [33]) = false := ne_list n2
        have e3 : (tx.toList == [43]) = false := ne_list n3
        have e4 : (tx.toList == [42]) = false := ne_list n4
        have e5 : (tx.toList == [47]) = false := ne_list n5
        have e6 : (tx.toList == [37]) = false := ne_list n6
        have e7 : (tx.toList == [38]) = false := ne_list n7
        have e8 : (tx.toList == [124]) = false := ne_list n8
        have e9 : (tx.toList == [60, 60]) = false := ne_list n9
        have e10 : (tx.toList == [62, 62]) = false := ne_list n10
        have e11 : (tx.toList == [38, 94]) = false := ne_list n11
        have e12 : (tx.toList == [38, 38]) = false := ne_list n12
        have e13 : (tx.toList == [124, 124]) = false := ne_list n13
        have e14 : (tx.toList == [61, 61]) = false := ne_list n14
        have e15 : (tx.toList == [33, 61]) = false := ne_list n15
        have e16 : (tx.toList == [60]) = false := ne_list n16
        have e17 : (tx.toList == [60, 61]) = false := ne_list n17
        have e18 : (tx.toList == [62]) = false := ne_list n18
        have e19 : (tx.toList == [62, 61]) = false := ne_list n19
        clear hN hq n0 n1 n2 n3 n4 n5 n6 n7 n8 n9 n10 n11 n12 n13 n14 n15 n16 n17 n18 n19
        go_enter Try.func63, Try.ntmps63; go_wp2; go_ret; exact ⟨rfl, Kp.refl w⟩
/-- All of a list, and no more than parameters may be. -/
def fewB (ks : List Int) (p : Int → Bool) : Bool := decide (ks.length ≤ 16) && allB ks p
theorem c_areFew (w : World) (ks : List Int) (la : Option Addr) (ll lc : Nat) (K : Nat → Hn) (hL : ListAt w ks la ll lc K) (F : Value) (p : Int → Bool) (hs : SortAt w F p) :
    Calls Try.prog 66 #[.slice la ll lc, F] w fun e w' => e = .returned (.bool (fewB ks p)) ∧ Kp w w' := by
  have HC := Lib.hid (c_areAll w ks la ll lc K hL F p hs)
  have hlen := hL.len
  have hbl := hL.bl
  clear hL hs
  unfold fewB
  by_cases h : ll ≤ 16
  · rw [hlen, decide_eq_true h, Bool.true_and]
    have e1 : decide ((ll : Int) ≤ 16) = true := decide_eq_true (by omega)
    clear h
    go_enter Try.func66, Try.ntmps66
    go_wp2_with (first | (go_at_call 61; (with_reducible refine HC.out.mono ?_); rintro e w' ⟨rfl, hk⟩))
    go_ret
    exact ⟨rfl, hk⟩
  · rw [hlen, decide_eq_false h, Bool.false_and]
    have e1 : decide ((ll : Int) ≤ 16) = false := decide_eq_false (by omega)
    clear h
    go_enter Try.func66, Try.ntmps66
    go_wp2_with fail
    go_ret
    exact ⟨rfl, Kp.refl w⟩
/-- How many defaults there are. -/
def countD (ks : List Int) : Nat := (ks.filter (fun k => k == 45)).length
theorem countD_next {ks : List Int} {n : Nat} {k : Int} (h : ks[n]? = some k) : countD (ks.take (n + 1)) = countD (ks.take n) + (if k = 45 then 1 else 0) := by
  unfold countD
  rw [List.take_add_one, h]
  simp only [Option.toList_some, List.filter_append, List.length_append]
  by_cases e : k = 45
  · simp [e]
  · simp [e]
theorem countD_le (ks : List Int) (n : Nat) : countD (ks.take n) ≤ n := by
  unfold countD
  exact Nat.le_trans (List.length_filter_le _ _) (by simp; omega)
set_option maxHeartbeats 6400000 in
set_option maxRecDepth 100000 in
theorem c_defaults (w : World) (ks : List Int) (la : Option Addr) (ll lc : Nat) (K : Nat → Hn) (hL : ListAt w ks la ll lc K) :
    Calls Try.prog 62 #[.slice la ll lc] w fun e w' => e = .returned (.int .i64 (countD ks)) ∧ Kp w w' := by
  have HL := Lib.hid hL
  have hbl := hL.bl
  clear hL
  go_enter Try.func62, Try.ntmps62
  go_wp2_with fail
  go_loopw [3, 8] (fun c i wr => ∃ (n d : Nat), n ≤ ll ∧ i = .int .i64 n ∧ c = .int .i64 d ∧ d ≤ n ∧ Hid (d = countD (ks.take n)) ∧ Kp w wr) (fun _ i _ => ll - (intOf i).toNat)
  case atStart => exact ⟨0, 0, by omega, rfl, rfl, by omega, Lib.hid (by simp [countD]), Kp.refl _⟩
  case round =>
    obtain ⟨n, d, hn, rfl, rfl, hd, HD, hkr⟩ := hrel
    have HKR := Lib.hid hkr
    by_cases hlt : n < ll
    · obtain ⟨b, o, ha, hr⟩ := HL.out.tl.at (by omega)
      have HA := Lib.hid ha
      have HKX := Lib.hid (countD_next (HL.out.at_ n hlt))
      have HR := Lib.hid (hr n hlt)
      clear ha hr hkr
      by_cases hq : (K n).k = 45
      · have e1 : ((K n).k == 45) = true := beq_iff_eq.2 hq
        have HQ := Lib.hid hq
        clear hq
        go_wp2_with (first | ((with_reducible show wpList _ _ _ (⟨some 10, _, _, _, _, _⟩ :: _) _ _); refine wpList_index_tab (d := 10) _ _ _ rfl 25 Try.underlying23 5 rfl _ _ _ _ o (by rfl) HA.out n (by rfl) hlt ?_) | ((with_reducible show wpList _ _ _ (⟨some 11, _, _, _, _, _⟩ :: _) _ _); refine wpList_load_nd (d := 11) _ _ rfl _ Try.underlying25 w _ _ b (o+n*5) (by rfl) rfl (by first | rfl | omega) (K n) HR.out HKR.out rfl ?_))
        go_roundw
        case rel => exact ⟨n + 1, d + 1, by omega, by go_num, by go_num, by omega, Lib.hid (by rw [HKX.out, if_pos HQ.out, HD.out]), HKR.out.alloc _⟩
        case measure => simp [intOf]; omega
      · have e1 : ((K n).k == 45) = false := beq_eq_false_iff_ne.2 hq
        have HQ := Lib.hid hq
        clear hq
        go_wp2_with (first | ((with_reducible show wpList _ _ _ (⟨some 10, _, _, _, _, _⟩ :: _) _ _); refine wpList_index_tab (d := 10) _ _ _ rfl 25 Try.underlying23 5 rfl _ _ _ _ o (by rfl) HA.out n (by rfl) hlt ?_) | ((with_reducible show wpList _ _ _ (⟨some 11, _, _, _, _, _⟩ :: _) _ _); refine wpList_load_nd (d := 11) _ _ rfl _ Try.underlying25 w _ _ b (o+n*5) (by rfl) rfl (by first | rfl | omega) (K n) HR.out HKR.out rfl ?_))
        go_roundw
        case rel => exact ⟨n + 1, d, by omega, by go_num, rfl, by omega, Lib.hid (by rw [HKX.out, if_neg HQ.out, HD.out]; rfl), HKR.out.alloc _⟩
        case measure => simp [intOf]; omega
    · obtain rfl : n = ll := by omega
      have hv : Hid (d = countD ks) := Lib.hid (by rw [HD.out, List.take_of_length_le (by rw [HL.out.len]; exact Nat.le_refl _)])
      go_wp2_with fail
      go_ret
      exact ⟨by rw [hv.out]; rfl, hkr⟩
/-- An expression, and arguments behind it. -/
def argsB : List Int → (Int → Bool) → Bool
  | [], _ => false
  | k :: ks, p => exK k && fewB ks p
theorem ListAt.tail {w : World} {k : Int} {ks : List Int} {b o ll lc : Nat} {K : Nat → Hn} (h : ListAt w (k :: ks) (some ⟨b, o, none⟩) ll lc K) (c : Nat) : ListAt w ks (some ⟨b, o + 5, none⟩) (ll - 1) c (fun i => K (i + 1)) := by
  have hlen := h.len
  simp only [List.length_cons] at hlen
  refine ⟨⟨fun h => (by cases h), fun hn => ?_⟩, by omega, fun i hi => by simpa using h.at_ (i + 1) (by omega), by have := h.bl; omega⟩
  obtain ⟨b', o', hb, _, hl, _, hr⟩ := h.tl.2 (by omega)
  cases hb
  exact ⟨b, o + 5, rfl, trivial, hl, fun h => h.elim, fun i hi => by
    have := hr (i + 1) (by omega)
    rwa [show o + 5 + i * 5 = o + (i + 1) * 5 by omega]⟩
set_option maxHeartbeats 3200000 in
set_option maxRecDepth 100000 in
theorem c_areArguments (w : World) (ks : List Int) (la : Option Addr) (ll lc : Nat) (K : Nat → Hn) (hL : ListAt w ks la ll lc K) (hlc : ll ≤ lc) (F : Value) (p : Int → Bool) (hs : SortAt w F p) :
    Calls Try.prog 64 #[.slice la ll lc, F] w fun e w' => e = .returned (.bool (argsB ks p)) ∧ Kp w w' := by
  have hbl := hL.bl
  have hlen := hL.len
  cases ks with
  | nil =>
    simp only [List.length_nil] at hlen
    subst hlen
    go_enter Try.func64, Try.ntmps64
    go_wp2_with fail
    go_ret
    exact ⟨rfl, Kp.refl w⟩
  | cons k ks =>
    simp only [List.length_cons] at hlen
    obtain ⟨b, o, ha, hr⟩ := hL.tl.at (by omega)
    subst ha
    have hk0 : k = (K 0).k := by simpa using hL.at_ 0 (by omega)
    obtain ⟨x0, x1, x2, x3, x4⟩ := node_at (show w.rangeAt b o (K 0).cells by simpa using hr 0 (by omega))
    have hbl2 := lt_of_cell x0
    have hk1 : K 0 = K 0 := rfl
    unfold argsB
    rw [hk0]
    have HT := Lib.hid (fun c => hL.tail c)
    have HS := Lib.hid hs
    clear hr hL hk0 hs
    have j1 : (0 : Int) < ll := by omega
    have j2 : (1 : Int) ≤ ll := by omega
    have j3 : (ll : Int) ≤ lc := by omega
    cases hq : exK (K 0).k with
    | false =>
      go_enter Try.func64, Try.ntmps64
      go_wp2_with (first | (go_at_call 33; (with_reducible refine (c_isExpression (K 0) _).mono ?_); rintro e w6 ⟨rfl, hk6⟩; rw [hq]))
      go_ret
      exact ⟨by rw [hq]; rfl, hk6⟩
    | true =>
      by_cases hc1 : lc = 1
      · obtain rfl : ll = 1 := by omega
        subst hc1
        obtain rfl : ks = [] := List.length_eq_zero_iff.1 (by omega)
        have HF := Lib.hid (fun (w6 : World) hk6 => c_areFew w6 [] (some ⟨b, o, none⟩) 0 0 K ⟨⟨fun h => (by cases h), fun hn => absurd hn (by omega)⟩, rfl, fun i hi => absurd hi (by omega), by omega⟩ F p (HS.out.keep hk6))
        go_enter Try.func64, Try.ntmps64
        go_wp2_with (first | (go_at_call 33; (with_reducible refine (c_isExpression (K 0) _).mono ?_); rintro e w6 ⟨rfl, hk6⟩; rw [hq]) | (go_at_call 66; (with_reducible refine (HF.out _ hk6).mono ?_); rintro e w7 ⟨rfl, hk7⟩))
        go_ret
        exact ⟨by rw [hq]; rfl, hk6.trans hk7⟩
      · have HF := Lib.hid (fun (w6 : World) hk6 => c_areFew w6 ks (some ⟨b, o + 5, none⟩) (ll - 1) (lc - 1) _ ((HT.out (lc - 1)).keep hk6) F p (HS.out.keep hk6))
        have j4 : (1 : Int) < lc := by omega
        have j5 : ¬ ((lc : Int) = 1) := by omega
        have j6 : ¬ ((lc : Int) - 1 = 0) := by omega
        have j7 : ¬ (lc - 1 = 0) := by omega
        have j8 : ¬ (lc ≤ 1) := by omega
        go_enter Try.func64, Try.ntmps64
        go_wp2_with (first | (go_at_call 33; (with_reducible refine (c_isExpression (K 0) _).mono ?_); rintro e w6 ⟨rfl, hk6⟩; rw [hq]) | (go_at_call 66; (with_reducible refine (HF.out _ hk6).mono ?_); rintro e w7 ⟨rfl, hk7⟩))
        go_ret
        exact ⟨by rw [hq]; rfl, hk6.trans hk7⟩
end Go.Proofs.Ytgamenimbkafjaa

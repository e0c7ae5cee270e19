/- The walk of ScanSemis: whatever the text. Condition: the library's variables hold what they must. -/
import Derived.Test.YtjpmgloofcgfnaaDoorC1
import Derived.Test.YtjpmgloofcgfnaaDoorB9
namespace Go.Proofs.YtjpmgloofcgfnaaDoor
open Go.RowKit
set_option linter.unusedVariables false
set_option linter.unusedSimpArgs false

theorem sixN : (6 : Int) ≠ 0 := by decide
theorem threeN : (3 : Int) ≠ 0 := by decide
theorem readE {s : ByteArray} {done : Int} {L : List Tk} {pos : Nat} {c e : Int} (h : readV s done L pos c = .error e) : e ≠ 0 := by
  unfold readV at h
  split at h
  · split at h
    · cases h
    · cases h; exact sixN
  · split at h
    · cases h
    · split at h
      · cases h
      · split at h
        · rename_i h0; cases h; exact h0
        · split at h
          · cases h; exact sixN
          · cases h
theorem scan_err {s : ByteArray} : ∀ {b pos : Nat} {done : Int} {L : List Tk} {x : Int × Int}, scanFrom s b pos done L = .error x → x.2 ≠ 0
  | 0, pos, done, L, x, h => by
    rw [scanFrom] at h
    split at h
    · cases h
    · cases h; exact sixN
  | b + 1, pos, done, L, x, h => by
    rw [scanFrom] at h
    split at h
    · split at h
      · exact scan_err h
      · split at h
        · exact scan_err h
        · rename_i e he
          cases h; exact readE he
    · split at h
      · cases h
      · cases h; exact sixN
theorem toks_err {s : ByteArray} {x : Int × Int} (h : toksV s = .error x) : x.2 ≠ 0 := by
  unfold toksV at h
  split at h
  · cases h; exact sixN
  · split at h
    · cases h; exact threeN
    · exact scan_err h
/-- Token m's cells. -/
theorem tok_at {L : List Tk} {m : Nat} {t : Tk} (h : L[m]? = some t) {q : Nat} {u : Value} (hq : t.cells[q]? = some u) : (tkCells L)[m * 4 + q]? = some u := by
  have hq4 : q < 4 := (List.getElem?_eq_some_iff.1 hq).1
  induction L generalizing m with
  | nil => simp at h
  | cons a L ih =>
    simp only [tkCells, List.flatMap_cons] at ih ⊢
    cases m with
    | zero => simp at h; subst h; rw [List.getElem?_append_left (by simpa using hq4)]; simpa using hq
    | succ m =>
      rw [List.getElem?_append_right (by simp; omega)]
      have := ih (m := m) (by simpa using h)
      rw [← this]
      congr 1
      simp
      omega
set_option maxHeartbeats 1600000 in
theorem semis_err (s : ByteArray) (x : Int × Int) (w : World) (he : ErrAt w) (hg : SignsAt w) (hm : MaxAt w) (h : toksV s = .error x) : Calls Tryd.prog 8 #[.string s] w fun e w' => e = .returned (.bool true) ∧ Kp w w' := by
  have HE := Lib.hid he
  have HG := Lib.hid hg
  have HM := Lib.hid hm
  have CT := Lib.hid (c_Tokens s w he hg hm)
  have HX := Lib.hid h
  have e1 : (x.2 == 0) = false := beq_eq_false_iff_ne.2 (toks_err h)
  have e2 : (x.2 != 0) = true := by simp [toks_err h]
  clear h he hg hm
  obtain ⟨xi, xe⟩ := x
  simp only at e1 e2
  go_enter Tryd.func8, Tryd.ntmps8
  go_wp2_with (first | (go_at_call 10; refine (CT.out).mono ?_; rintro e w2 hq; rw [HX.out] at hq; obtain ⟨hk2, rfl⟩ := hq; have K2 := Lib.hid hk2; clear hk2) | (go_at_call 12; (with_reducible refine (c_answers _ (HE.out.keep K2.out) (HG.out.keep K2.out) (HM.out.keep K2.out)).mono ?_); rintro e w3 ⟨rfl, hk3⟩; have K3 := Lib.hid (K2.out.trans hk3); clear hk3; have HE3 := Lib.hid (HE.out.keep K3.out); have HG3 := Lib.hid (HG.out.keep K3.out); have HM3 := Lib.hid (HM.out.keep K3.out)) | (go_at_call 12; (with_reducible refine (c_answers _ HE3.out HG3.out HM3.out).mono ?_); rintro e w4 ⟨rfl, hk4⟩; have K4 := Lib.hid (K3.out.trans hk4); clear hk4))
  go_ret
  exact ⟨rfl, K4.out⟩
theorem ne_empty {t : ByteArray} (h : t ≠ ⟨#[]⟩) : t.toList.isEmpty = false := by
  have := ne_list h
  cases hl : t.toList with
  | nil => rw [hl] at this; exact absurd this (by decide)
  | cons a l => rfl
theorem cell_at {w : World} {g : Nat} {xs : List Value} (h : ∀ (j : Nat) (u : Value), xs[j]? = some u → ∃ g1, (some ⟨g, 0, none⟩ : Option Addr) = some ⟨g1, 0, none⟩ ∧ w.cell? ⟨g1, j, none⟩ = some u) {j : Nat} {u : Value} (hu : xs[j]? = some u) : w.cell? ⟨g, j, none⟩ = some u := by
  obtain ⟨g1, e, hc⟩ := h j u hu
  cases e
  exact hc
theorem le_max {a N : Nat} (h : a = N) (h2 : a ≤ maxLen) : N ≤ 9223372036854775807 := by
  unfold maxLen at h2
  omega
theorem own_slice {w : World} {B : Nat} {e : TypeId} {m n : Nat} {v : Value} {xs : List Value} (h : w.ownsRow B e m v n xs) (hx : xs.length = n * m) (hm : 0 < m) : ∃ ad c, v = .slice ad n c ∧ n ≤ maxLen ∧ ∀ j u, xs[j]? = some u → ∃ g, ad = some ⟨g, 0, none⟩ ∧ w.cell? ⟨g, j, none⟩ = some u := by
  rcases h.2 with ⟨hv, h0⟩ | ⟨g, cap, cur, hv, hg0, hg, hc1, hc2, hsz, htk⟩
  · subst h0
    refine ⟨none, 0, hv, Nat.zero_le _, fun j u hu => ?_⟩
    rw [List.length_eq_zero_iff.1 (by omega : xs.length = 0)] at hu
    simp at hu
  · refine ⟨some ⟨g, 0, none⟩, cap, hv, Nat.le_trans hc1 hc2, fun j u hu => ⟨g, rfl, ?_⟩⟩
    rw [← htk, List.getElem?_take] at hu
    split at hu
    · rw [cell_of_row w g j cur _ _ hg]; simpa using hu
    · cases hu
theorem tk_len (L : List Tk) : (tkCells L).length = L.length * 4 := by
  induction L with
  | nil => rfl
  | cons a L ih => simp only [tkCells, List.flatMap_cons, List.length_append, List.length_cons] at ih ⊢; simp only [List.length_cons, List.length_nil]; omega
def lawL : List ByteArray := [⟨#[98, 114, 101, 97, 107]⟩, ⟨#[99, 111, 110, 116, 105, 110, 117, 101]⟩, ⟨#[114, 101, 116, 117, 114, 110]⟩, ⟨#[116, 114, 117, 101]⟩, ⟨#[102, 97, 108, 115, 101]⟩, ⟨#[41]⟩, ⟨#[93]⟩, ⟨#[125]⟩]
abbrev lawA : Array Value := #[.string ⟨#[98, 114, 101, 97, 107]⟩, .string ⟨#[99, 111, 110, 116, 105, 110, 117, 101]⟩, .string ⟨#[114, 101, 116, 117, 114, 110]⟩, .string ⟨#[116, 114, 117, 101]⟩, .string ⟨#[102, 97, 108, 115, 101]⟩, .string ⟨#[41]⟩, .string ⟨#[93]⟩, .string ⟨#[125]⟩]
theorem ends_text {p : Tk} (h : endsB p = true) : p.k = 1 ∨ p.k = 2 ∨ p.text ∈ lawL := by
  unfold endsB at h
  simp only [Bool.or_eq_true, Bool.and_eq_true, decide_eq_true_eq] at h
  rcases h with (h | ⟨_, h⟩) | ⟨_, h⟩
  · rcases h with h | h
    · exact .inl h
    · exact .inr (.inl h)
  · have h2 : p.text ∈ end3L := by
      rcases Classical.em (p.text ∈ end3L) with h3 | h3
      · exact h3
      · rw [inB_no h3] at h; cases h
    simp only [end3L, List.mem_cons, List.not_mem_nil, or_false] at h2
    refine .inr (.inr ?_)
    simp only [lawL, List.mem_cons]
    rcases h2 with h2 | h2 | h2 | h2 | h2 <;> rw [h2] <;> simp
  · have h2 : p.text ∈ end4L := by
      rcases Classical.em (p.text ∈ end4L) with h3 | h3
      · exact h3
      · rw [inB_no h3] at h; cases h
    simp only [end4L, List.mem_cons, List.not_mem_nil, or_false] at h2
    refine .inr (.inr ?_)
    simp only [lawL, List.mem_cons]
    rcases h2 with h2 | h2 | h2 <;> rw [h2] <;> simp
/-- Does the text stand among the first n? -/
noncomputable def hitB (x : ByteArray) (n : Nat) : Bool := inB (lawL.take n) x
theorem hitB_0 {x : ByteArray} : hitB x 0 = false := inB_no (by simp)
theorem hitB_t {x : ByteArray} {n : Nat} (h : hitB x n = true) : hitB x (n + 1) = true := by
  rcases Classical.em (x ∈ lawL.take n) with h2 | h2
  · exact inB_yes (List.mem_of_mem_take (i := n) (by rw [List.take_take, Nat.min_eq_left (Nat.le_succ n)]; exact h2))
  · rw [hitB, inB_no h2] at h; cases h
theorem take_one (n : Nat) (hn : n < 8) : lawL.take (n + 1) = lawL.take n ++ [fnS lawL n] := by
  rcases n with _ | _ | _ | _ | _ | _ | _ | _ | n
  all_goals first | rfl | omega
theorem hitB_s {x : ByteArray} {n : Nat} (hn : n < 8) (h : hitB x n = false) (e : x = fnS lawL n) : hitB x (n + 1) = true :=
  inB_yes (by rw [take_one n hn, e]; simp)
theorem hitB_n {x : ByteArray} {n : Nat} (hn : n < 8) (h : hitB x n = false) (e : x ≠ fnS lawL n) : hitB x (n + 1) = false := by
  refine inB_no (fun h2 => ?_)
  rw [take_one n hn, List.mem_append] at h2
  rcases h2 with h2 | h2
  · rw [hitB, inB_yes h2] at h; cases h
  · exact e (by simpa using h2)
theorem hitB_all {x : ByteArray} (h : x ∈ lawL) : hitB x 8 = true := inB_yes h
theorem law_at (n : Nat) (h : n < 8) : lawA[n]? = some (.string (fnS lawL n)) := by
  rcases n with _ | _ | _ | _ | _ | _ | _ | _ | n
  all_goals first | rfl | omega
theorem box_law (wr : World) (p : Tk) (W1 : World) (h : W1 = (wr.alloc (.cells #[.int .i64 p.k, .string p.text, .int .u64 p.n, .int .i64 p.pos] 33)).alloc (.cells lawA 9)) :
    Kp wr W1 ∧ W1.cell? ⟨wr.heap.size, 1, none⟩ = some (.string p.text) ∧ ∀ n, n < 8 → W1.cell? ⟨wr.heap.size + 1, n, none⟩ = some (.string (fnS lawL n)) := by
  subst h
  refine ⟨((Kp.refl wr).alloc _).alloc _, (boxT (t := p) ((Kp.refl _).alloc _)).2.1, fun n hn => ?_⟩
  have h0 : (wr.alloc (.cells #[.int .i64 p.k, .string p.text, .int .u64 p.n, .int .i64 p.pos] 33)).heap.size = wr.heap.size + 1 := Array.size_push _
  rw [← h0]
  exact (cell_of_row _ _ n _ _ _ (heap_alloc_new _ _)).trans (law_at n hn)
set_option maxHeartbeats 1600000 in
set_option maxRecDepth 100000 in
theorem semis_ok (s : ByteArray) (L : List Tk) (w : World) (he : ErrAt w) (hg : SignsAt w) (hm : MaxAt w) (h : toksV s = .ok L) : Calls Tryd.prog 8 #[.string s] w fun e w' => e = .returned (.bool true) ∧ Kp w w' := by
  have HE := Lib.hid he
  have HG := Lib.hid hg
  have HM := Lib.hid hm
  have CT := Lib.hid (c_Tokens s w he hg hm)
  have HX := Lib.hid h
  have HS := Lib.hid (toks_semi h)
  clear h he hg hm
  obtain ⟨N, hN⟩ : ∃ N, L.length = N := ⟨_, rfl⟩
  have HN := Lib.hid hN
  go_enter Tryd.func8, Tryd.ntmps8
  go_wp2_with (first | (go_at_call 10; refine (CT.out).mono ?_; rintro e w2 hq; rw [HX.out] at hq; obtain ⟨hk2, v, rfl, hown⟩ := hq; obtain ⟨ad, c, hv, hmx, hcl⟩ := own_slice hown (tk_len L) (by decide); subst hv; have hmx2 : N ≤ 9223372036854775807 := le_max hN hmx; clear hmx; have K2 := Lib.hid hk2; have HO := Lib.hid hcl; clear hk2 hown hcl; rw [hN]; clear hN) | (go_at_call 12; (with_reducible refine (c_answers _ (HE.out.keep K2.out) (HG.out.keep K2.out) (HM.out.keep K2.out)).mono ?_); rintro e w3 ⟨rfl, hk3⟩; have K3 := Lib.hid hk3; clear hk3))
  go_loopw [6] (fun i wr => ∃ m : Nat, m ≤ N ∧ i = .int .i64 m ∧ Kp w3 wr) (fun i _ => N - (intOf i).toNat)
  case atStart => exact ⟨0, by omega, rfl, Kp.refl _⟩
  case round =>
    obtain ⟨m, hm, rfl, hkr⟩ := hrel
    by_cases hlt : m < N
    · obtain ⟨t, ht⟩ : ∃ t, L[m]? = some t := ⟨L[m]'(by have := HN.out; omega), by simp [HN.out, hlt]⟩
      obtain ⟨g, rfl, d1⟩ := HO.out _ _ (tok_at ht (q := 1) rfl)
      have d1 := hkr.cellv (K3.out.cellv d1)
      have HT := Lib.hid ht
      clear ht
      have hgl := lt_of_cell d1
      have i1 : (0 : Int) ≤ (m : Int) := by omega
      have i2 : (m : Int) < (N : Int) := by omega
      by_cases he : t.text = ⟨#[]⟩
      · rw [he] at d1
        clear d1
        obtain ⟨j, p, rfl, hp, hb⟩ := HS.out m t HT.out he
        have d1 := hkr.cellv (K3.out.cellv (cell_at HO.out (tok_at HT.out (q := 1) rfl)))
        rw [he] at d1
        have f0 := hkr.cellv (K3.out.cellv (cell_at HO.out (tok_at hp (q := 0) rfl)))
        have f1 := hkr.cellv (K3.out.cellv (cell_at HO.out (tok_at hp (q := 1) rfl)))
        have f2 := hkr.cellv (K3.out.cellv (cell_at HO.out (tok_at hp (q := 2) rfl)))
        have f3 := hkr.cellv (K3.out.cellv (cell_at HO.out (tok_at hp (q := 3) rfl)))
        rw [Nat.add_zero] at f0
        have HB := Lib.hid hb
        have HP := Lib.hid hp
        clear hb hp he
        have i3 : (0 : Int) ≤ (j : Int) := by omega
        have i4 : (j : Int) < (N : Int) := by omega
        have i5 : ((j + 1 : Nat) : Int) - 1 = (j : Int) := by omega
        have i6 : IntKind.i64.wrap (j : Int) = j := by rw [IntKind.wrap_i64]; omega
        obtain ⟨k, tx, pn, pp⟩ := p
        simp only at f0 f1 f2 f3
        have HE := Lib.hid (ends_text HB.out)
        by_cases hk1 : k = 1
        · subst hk1
          obtain ⟨W1, hW1⟩ : ∃ W1, W1 = (wr.alloc (.cells #[.int .i64 1, .string tx, .int .u64 pn, .int .i64 pp] 33)).alloc (.cells lawA 9) := ⟨_, rfl⟩
          have HW1 := Lib.hid hW1
          obtain ⟨hk1, b1, bn⟩ := box_law wr ⟨1, tx, pn, pp⟩ W1 hW1
          have HK1 := Lib.hid hk1
          have HBN := Lib.hid bn
          clear hW1 hk1 bn
          go_wp2_with fail
          rw [show (wr.alloc (.cells #[.int .i64 1, .string tx, .int .u64 pn, .int .i64 pp] 33)).alloc (.cells #[.string ⟨#[98, 114, 101, 97, 107]⟩, .string ⟨#[99, 111, 110, 116, 105, 110, 117, 101]⟩, .string ⟨#[114, 101, 116, 117, 114, 110]⟩, .string ⟨#[116, 114, 117, 101]⟩, .string ⟨#[102, 97, 108, 115, 101]⟩, .string ⟨#[41]⟩, .string ⟨#[93]⟩, .string ⟨#[125]⟩] 9) = W1 from HW1.out.symm]
          go_loopw [8, 53] (fun b i wq => ∃ n : Nat, n ≤ 8 ∧ i = .int .i64 n ∧ b = .bool true ∧ Kp W1 wq) (fun _ i _ => 8 - (intOf i).toNat)
          case atStart => exact ⟨0, by omega, rfl, rfl, Kp.refl _⟩
          case round =>
            obtain ⟨n, hn, rfl, rfl, hkq⟩ := hrel
            by_cases hn8 : n < 8
            · have x1 := hkq.cellv b1
              have x2 := hkq.cellv (HBN.out n hn8)
              have j1 : (0 : Int) ≤ (n : Int) := by omega
              have j2 : (n : Int) < 8 := by omega
              go_wp2_with fail
              go_roundw
              case rel => exact ⟨n + 1, by omega, by go_num, rfl, hkq⟩
              case measure => simp [intOf]; omega
            · obtain rfl : n = 8 := by omega
              go_wp2_with fail
              go_roundw
              case rel => exact ⟨j + 2, by omega, by go_num, hkr.trans (HK1.out.trans hkq)⟩
              case measure => simp [intOf]; omega
        · by_cases hk2 : k = 2
          · subst hk2
            obtain ⟨W1, hW1⟩ : ∃ W1, W1 = (wr.alloc (.cells #[.int .i64 2, .string tx, .int .u64 pn, .int .i64 pp] 33)).alloc (.cells lawA 9) := ⟨_, rfl⟩
            have HW1 := Lib.hid hW1
            obtain ⟨hk1, b1, bn⟩ := box_law wr ⟨2, tx, pn, pp⟩ W1 hW1
            have HK1 := Lib.hid hk1
            have HBN := Lib.hid bn
            clear hW1 hk1 bn
            go_wp2_with fail
            rw [show (wr.alloc (.cells #[.int .i64 2, .string tx, .int .u64 pn, .int .i64 pp] 33)).alloc (.cells #[.string ⟨#[98, 114, 101, 97, 107]⟩, .string ⟨#[99, 111, 110, 116, 105, 110, 117, 101]⟩, .string ⟨#[114, 101, 116, 117, 114, 110]⟩, .string ⟨#[116, 114, 117, 101]⟩, .string ⟨#[102, 97, 108, 115, 101]⟩, .string ⟨#[41]⟩, .string ⟨#[93]⟩, .string ⟨#[125]⟩] 9) = W1 from HW1.out.symm]
            go_loopw [8, 53] (fun b i wq => ∃ n : Nat, n ≤ 8 ∧ i = .int .i64 n ∧ b = .bool true ∧ Kp W1 wq) (fun _ i _ => 8 - (intOf i).toNat)
            case atStart => exact ⟨0, by omega, rfl, rfl, Kp.refl _⟩
            case round =>
              obtain ⟨n, hn, rfl, rfl, hkq⟩ := hrel
              by_cases hn8 : n < 8
              · have x1 := hkq.cellv b1
                have x2 := hkq.cellv (HBN.out n hn8)
                have j1 : (0 : Int) ≤ (n : Int) := by omega
                have j2 : (n : Int) < 8 := by omega
                go_wp2_with fail
                go_roundw
                case rel => exact ⟨n + 1, by omega, by go_num, rfl, hkq⟩
                case measure => simp [intOf]; omega
              · obtain rfl : n = 8 := by omega
                go_wp2_with fail
                go_roundw
                case rel => exact ⟨j + 2, by omega, by go_num, hkr.trans (HK1.out.trans hkq)⟩
                case measure => simp [intOf]; omega
          · have HKX := Lib.hid (show tx ∈ lawL from (HE.out.resolve_left hk1).resolve_left hk2)
            have q1 : (k == 1) = false := beq_eq_false_iff_ne.2 hk1
            have q2 : (k == 2) = false := beq_eq_false_iff_ne.2 hk2
            clear hk1 hk2
            obtain ⟨W1, hW1⟩ : ∃ W1, W1 = (wr.alloc (.cells #[.int .i64 k, .string tx, .int .u64 pn, .int .i64 pp] 33)).alloc (.cells lawA 9) := ⟨_, rfl⟩
            have HW1 := Lib.hid hW1
            obtain ⟨hk1, b1, bn⟩ := box_law wr ⟨k, tx, pn, pp⟩ W1 hW1
            have HK1 := Lib.hid hk1
            have HBN := Lib.hid bn
            clear hW1 hk1 bn
            go_wp2_with fail
            rw [show (wr.alloc (.cells #[.int .i64 k, .string tx, .int .u64 pn, .int .i64 pp] 33)).alloc (.cells #[.string ⟨#[98, 114, 101, 97, 107]⟩, .string ⟨#[99, 111, 110, 116, 105, 110, 117, 101]⟩, .string ⟨#[114, 101, 116, 117, 114, 110]⟩, .string ⟨#[116, 114, 117, 101]⟩, .string ⟨#[102, 97, 108, 115, 101]⟩, .string ⟨#[41]⟩, .string ⟨#[93]⟩, .string ⟨#[125]⟩] 9) = W1 from HW1.out.symm]
            go_loopw [8, 53] (fun b i wq => ∃ n : Nat, n ≤ 8 ∧ i = .int .i64 n ∧ b = .bool (hitB tx n) ∧ Kp W1 wq) (fun _ i _ => 8 - (intOf i).toNat)
            case atStart => exact ⟨0, by omega, rfl, by rw [hitB_0], Kp.refl _⟩
            case round =>
              obtain ⟨n, hn, rfl, rfl, hkq⟩ := hrel
              by_cases hn8 : n < 8
              · have x1 := hkq.cellv b1
                have x2 := hkq.cellv (HBN.out n hn8)
                have j1 : (0 : Int) ≤ (n : Int) := by omega
                have j2 : (n : Int) < 8 := by omega
                cases hh : hitB tx n with
                | true =>
                  have HH := Lib.hid (hitB_t hh)
                  clear hh
                  go_wp2_with fail
                  go_roundw
                  case rel => exact ⟨n + 1, by omega, by go_num, by rw [HH.out], hkq⟩
                  case measure => simp [intOf]; omega
                | false =>
                  rcases same_or tx (fnS lawL n) with ⟨ea, e1⟩ | ⟨ea, e1⟩
                  · have HH := Lib.hid (hitB_s hn8 hh ea)
                    clear hh ea
                    go_wp2_with fail
                    go_roundw
                    case rel => exact ⟨n + 1, by omega, by go_num, by rw [HH.out], hkq⟩
                    case measure => simp [intOf]; omega
                  · have HH := Lib.hid (hitB_n hn8 hh ea)
                    clear hh ea
                    go_wp2_with fail
                    go_roundw
                    case rel => exact ⟨n + 1, by omega, by go_num, by rw [HH.out], hkq⟩
                    case measure => simp [intOf]; omega
              · obtain rfl : n = 8 := by omega
                have hh : hitB tx 8 = true := hitB_all HKX.out
                rw [hh]
                go_wp2_with fail
                go_roundw
                case rel => exact ⟨j + 2, by omega, by go_num, hkr.trans (HK1.out.trans hkq)⟩
                case measure => simp [intOf]; omega
      · have e1 : t.text.toList.isEmpty = false := ne_empty he
        clear he
        go_wp2_with fail
        go_roundw
        case rel => exact ⟨m + 1, by omega, by go_num, hkr⟩
        case measure => simp [intOf]; omega
    · obtain rfl : m = N := by omega
      go_wp2_with fail
      go_ret
      exact ⟨rfl, (K2.out.trans K3.out).trans hkr⟩
theorem law_ScanSemis (s : ByteArray) (w : World) (he : ErrAt w) (hg : SignsAt w) (hm : MaxAt w) : Calls Tryd.prog 8 #[.string s] w fun e w' => e = .returned (.bool true) ∧ Kp w w' := by
  cases h : toksV s with
  | error x => exact semis_err s x w he hg hm h
  | ok L => exact semis_ok s L w he hg hm h
end Go.Proofs.YtjpmgloofcgfnaaDoor

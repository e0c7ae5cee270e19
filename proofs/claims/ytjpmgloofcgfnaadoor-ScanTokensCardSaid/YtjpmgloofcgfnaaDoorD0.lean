/- A text's tokens as a run from token to token, at whole characters. No program in sight but the plain function of Tokens. -/
import Derived.Test.YtjpmgloofcgfnaaDoorC4
import Derived.Lib.SpaceUEq
import Derived.Lib.QuoteLoop
import Derived.Lib.IndexMore
namespace Go.Proofs.YtjpmgloofcgfnaaDoor
open Go.RowKit
set_option linter.unusedVariables false
set_option linter.unusedSimpArgs false

/-- Byte p; 0: there is none. -/
def byt (s : ByteArray) (p : Nat) : UInt8 := s.data.toList.getD p 0
abbrev rn (s : ByteArray) (p : Nat) : Nat := (Utf8.decode s p).1
abbrev wd (s : ByteArray) (p : Nat) : Nat := (Utf8.decode s p).2
theorem len_size (s : ByteArray) : s.data.toList.length = s.size := by simp
theorem dec_N (s : ByteArray) (p : Nat) : Utf8.decode s p = Lib.decodeN (s.size - p) (byt s p).toNat (byt s (p + 1)).toNat (byt s (p + 2)).toNat (byt s (p + 3)).toNat := by
  rw [Lib.decode_N, len_size]
  rfl
theorem wd_le {s : ByteArray} {p : Nat} (h : p < s.size) : p + wd s p ≤ s.size := by
  have := Lib.decodeN_width_le (s.size - p) (byt s p).toNat (byt s (p + 1)).toNat (byt s (p + 2)).toNat (byt s (p + 3)).toNat (by omega)
  rw [← dec_N] at this
  show p + (Utf8.decode s p).2 ≤ s.size
  omega
theorem wd_pos {s : ByteArray} {p : Nat} (h : p < s.size) : 1 ≤ wd s p := width_pos s p h
theorem wd_cont {s : ByteArray} {p i : Nat} (h1 : 1 ≤ i) (h2 : i < wd s p) : 128 ≤ (byt s (p + i)).toNat := by
  have h := Lib.decodeN_conts (s.size - p) (byt s p).toNat (byt s (p + 1)).toNat (byt s (p + 2)).toNat (byt s (p + 3)).toNat
  rw [← dec_N] at h
  obtain ⟨a, b, c, d⟩ := h
  have h3 : i < (Utf8.decode s p).2 := h2
  have hi : i = 1 ∨ i = 2 ∨ i = 3 := by omega
  rcases hi with rfl | rfl | rfl
  · have := (a (by omega)).1; omega
  · have := (b (by omega)).1; omega
  · have := (c (by omega)).1; omega
theorem rn_byte {s : ByteArray} {p : Nat} (h : (byt s p).toNat < 128) : Utf8.decode s p = ((byt s p).toNat, 1) := by
  rw [dec_N, Lib.decodeN_ascii _ _ _ _ _ h]
theorem rn_lt {s : ByteArray} {p : Nat} (h : rn s p < 128) : (byt s p).toNat = rn s p ∧ wd s p = 1 := by
  by_cases h1 : (byt s p).toNat < 128
  · have := rn_byte h1
    constructor
    · show _ = (Utf8.decode s p).1; rw [this]
    · show (Utf8.decode s p).2 = _; rw [this]
  · exfalso
    have h2 : (Utf8.decode s p).1 < 128 := h
    rw [dec_N] at h2
    unfold Lib.decodeN at h2
    rw [if_neg h1] at h2
    revert h2
    repeat' split
    all_goals (simp only; omega)
/-- From p, whole characters on, to q. -/
inductive Reach (s : ByteArray) : Nat → Nat → Prop
  | refl (p : Nat) : Reach s p p
  | step {p q : Nat} : p < s.size → Reach s (p + wd s p) q → Reach s p q
theorem Reach.le {s : ByteArray} {p q : Nat} (h : Reach s p q) : p ≤ q := by
  induction h with
  | refl p => exact Nat.le_refl _
  | step h1 _ ih => omega
theorem Reach.inside {s : ByteArray} {p q : Nat} (h : Reach s p q) (hp : p ≤ s.size) : q ≤ s.size := by
  induction h with
  | refl p => exact hp
  | step h1 _ ih => exact ih (wd_le h1)
theorem Reach.trans {s : ByteArray} {p q r : Nat} (h : Reach s p q) (k : Reach s q r) : Reach s p r := by
  induction h with
  | refl p => exact k
  | step h1 _ ih => exact .step h1 (ih k)
theorem Reach.next {s : ByteArray} {p q : Nat} (h : Reach s p q) (hp : p < q) : Reach s (p + wd s p) q := by
  cases h with
  | refl => omega
  | step h1 h2 => exact h2
/-- Characters of one byte. -/
theorem reach_ascii {s : ByteArray} : ∀ (n p : Nat), p + n ≤ s.size → (∀ i, i < n → (byt s (p + i)).toNat < 128) → Reach s p (p + n)
  | 0, p, _, _ => .refl p
  | n + 1, p, h, ha => by
    have h0 := rn_byte (s := s) (p := p) (by simpa using ha 0 (by omega))
    have hw : wd s p = 1 := by show (Utf8.decode s p).2 = 1; rw [h0]
    refine .step (by omega) ?_
    rw [hw, show p + (n + 1) = (p + 1) + n by omega]
    exact reach_ascii n (p + 1) (by omega) (fun i hi => by have := ha (i + 1) (by omega); rwa [show p + 1 + i = p + (i + 1) by omega])
/-- No character goes across a byte below 128. -/
theorem reach_low {s : ByteArray} : ∀ (m p q : Nat), q - p ≤ m → p ≤ q → q ≤ s.size → (q < s.size → (byt s q).toNat < 128) → Reach s p q
  | 0, p, q, hm, hp, _, _ => by rw [show p = q by omega]; exact .refl q
  | m + 1, p, q, hm, hp, hq, hb => by
    by_cases he : p = q
    · subst he; exact .refl p
    · have h1 : p < s.size := by omega
      have h2 := wd_pos h1
      have h3 := wd_le h1
      have h4 : p + wd s p ≤ q := by
        apply Classical.byContradiction
        intro h
        have hqs : q < s.size := by omega
        have := wd_cont (s := s) (p := p) (i := q - p) (by omega) (by omega)
        rw [show p + (q - p) = q by omega] at this
        have := hb hqs
        omega
      exact .step h1 (reach_low m _ q (by omega) h4 hq hb)
theorem scan_fuel (s : ByteArray) : ∀ (b1 b2 pos : Nat) (done : Int) (L : List Tk), s.size ≤ pos + b1 → s.size ≤ pos + b2 → scanFrom s b1 pos done L = scanFrom s b2 pos done L
  | 0, 0, pos, done, L, _, _ => rfl
  | 0, b2 + 1, pos, done, L, h1, _ => by rw [scanFrom, scanFrom, if_neg (by omega)]
  | b1 + 1, 0, pos, done, L, _, h2 => by rw [scanFrom, scanFrom, if_neg (by omega)]
  | b1 + 1, b2 + 1, pos, done, L, h1, h2 => by
    rw [scanFrom, scanFrom]
    by_cases hp : pos < s.size
    · have hw := width_pos s pos hp
      rw [if_pos hp, if_pos hp]
      split
      · exact scan_fuel s b1 b2 _ _ _ (by omega) (by omega)
      · split
        · exact scan_fuel s b1 b2 _ _ _ (by omega) (by omega)
        · rfl
    · rw [if_neg hp, if_neg hp]
/-- The tokens from a place on, with as many characters to come as there are. -/
noncomputable abbrev scanP (s : ByteArray) (pos : Nat) (done : Int) (L : List Tk) : Except (Int × Int) (List Tk) := scanFrom s s.size pos done L
theorem scanP_on {s : ByteArray} {pos : Nat} {done : Int} {L : List Tk} (hp : pos < s.size) (hd : (pos : Int) < done) : scanP s pos done L = scanP s (pos + wd s pos) done L := by
  have hw : 1 ≤ (Utf8.decode s pos).2 := wd_pos hp
  obtain ⟨b, hb⟩ : ∃ b, s.size = b + 1 := ⟨s.size - 1, by omega⟩
  show scanFrom s s.size pos done L = scanFrom s s.size _ done L
  rw [scan_fuel s s.size (b + 1) pos done L (by omega) (by omega), scanFrom, if_pos hp, if_pos hd]
  exact scan_fuel s _ _ _ _ _ (by omega) (by omega)
theorem scanP_read {s : ByteArray} {pos : Nat} {done : Int} {L : List Tk} (hp : pos < s.size) (hd : done ≤ (pos : Int)) : scanP s pos done L = match readV s done L pos (rn s pos) with | .ok (d, L') => scanP s (pos + wd s pos) d L' | .error e => .error (pos, e) := by
  have hw : 1 ≤ (Utf8.decode s pos).2 := wd_pos hp
  obtain ⟨b, hb⟩ : ∃ b, s.size = b + 1 := ⟨s.size - 1, by omega⟩
  show scanFrom s s.size pos done L = _
  rw [scan_fuel s s.size (b + 1) pos done L (by omega) (by omega), scanFrom, if_pos hp, if_neg (by omega)]
  split
  · rename_i d L' he
    rw [he]
    exact scan_fuel s _ _ _ _ _ (by omega) (by omega)
  · rename_i e he
    rw [he]
theorem scanP_end {s : ByteArray} {pos : Nat} {done : Int} {L : List Tk} (hp : ¬ pos < s.size) : scanP s pos done L = match endV L s.size with | some L' => .ok L' | none => .error (s.size, 6) := by
  show scanFrom s s.size pos done L = _
  rw [scan_fuel s s.size 0 pos done L (by omega) (by omega), scanFrom]
  rfl
theorem scan_skip {s : ByteArray} {p q : Nat} {L : List Tk} (h : Reach s p q) : scanP s p q L = scanP s q q L := by
  induction h with
  | refl p => rfl
  | step h1 h2 ih =>
    have := h2.le
    have hw := wd_pos h1
    rw [scanP_on h1 (by omega), ih]
theorem scan_any {s : ByteArray} {p : Nat} {d1 d2 : Int} {L : List Tk} (h1 : d1 ≤ p) (h2 : d2 ≤ p) : scanP s p d1 L = scanP s p d2 L := done_any s s.size p d1 d2 L h1 h2
/-- A token begins at a place. -/
def TokAt (s : ByteArray) (p : Nat) (t : Tk) : Prop :=
  ¬ ((rn s p : Int) = 10) ∧ ¬ ((rn s p : Int) = 9 ∨ (rn s p : Int) = 13 ∨ (rn s p : Int) = 32) ∧ Lib.hasPrefix (s.data.toList.drop p) [47, 47] = false ∧ firstV (s.extract p s.size) (rn s p) = (t, 0)
theorem sub_list (s : ByteArray) (p n : Nat) : (s.extract p (p + n)).data.toList = (s.data.toList.drop p).take n := by
  rw [Lib.extract_data]
  congr 1
  omega
/-- What stands in a text from p on, n bytes of it, as whole characters. -/
structure Stands (s : ByteArray) (p : Nat) (x : ByteArray) : Prop where
  same : x.data.toList = (s.data.toList.drop p).take x.size
  pos : 0 < x.size
  room : p + x.size ≤ s.size
  reach : Reach s p (p + x.size)
theorem span_reach (s : ByteArray) (p : Nat) : ∀ (b q : Nat), q ≤ (s.extract p s.size).size → (s.extract p s.size).size ≤ q + b → Reach s (p + q) (p + spanAt (s.extract p s.size) b q)
  | 0, q, h, hb => by
    rw [spanAt, show q = (s.extract p s.size).size by omega]
    exact .refl _
  | b + 1, q, h, hb => by
    rw [spanAt]
    split
    · rename_i hq
      split
      · have hw := wd_pos hq
        have hl := wd_le hq
        have e : wd s (p + q) = wd (s.extract p s.size) q := by show (Utf8.decode s (p + q)).2 = (Utf8.decode (s.extract p s.size) q).2; rw [Lib.tail_decode]
        have hs : p + q < s.size := by rw [Lib.tail_size] at hq; omega
        refine .step hs ?_
        rw [e, Nat.add_assoc]
        exact span_reach s p b _ hl (by omega)
      · exact .refl _
    · rename_i hq
      rw [show q = (s.extract p s.size).size by omega]
      exact .refl _
theorem span_stands {s : ByteArray} {p : Nat} (hp : p < s.size) (hc : wordC (rn s p) = true) : Stands s p ((s.extract p s.size).extract 0 (spanE (s.extract p s.size))) := by
  have hsz : 0 < (s.extract p s.size).size := by rw [Lib.tail_size]; omega
  have hr := span_reach s p (s.extract p s.size).size 0 (by omega) (by omega)
  have hpos := spanE_pos (s.extract p s.size) hsz (by rw [Lib.tail_decode]; exact hc)
  have hin := hr.inside (by omega)
  have hE : spanAt (s.extract p s.size) (s.extract p s.size).size 0 = spanE (s.extract p s.size) := rfl
  rw [hE] at hr hin
  have hn : ((s.extract p s.size).extract 0 (spanE (s.extract p s.size))).size = spanE (s.extract p s.size) := by
    rw [ByteArray.size_extract, Lib.tail_size]; omega
  refine ⟨?_, by rw [hn]; exact hpos, by rw [hn]; exact hin, by rw [hn]; exact hr⟩
  rw [hn, Lib.extract_data, rest_list]
  simp
theorem sign_stands {s : ByteArray} {p : Nat} (hp : p < s.size) (h : signV (s.extract p s.size).data.toList ≠ ⟨#[]⟩) : Stands s p (signV (s.extract p s.size).data.toList) := by
  rw [rest_list] at h ⊢
  unfold signV at h ⊢
  cases hf : signsL.find? (fun g => Lib.hasPrefix (s.data.toList.drop p) g.data.toList) with
  | none => rw [hf] at h; exact absurd rfl h
  | some g =>
    simp only [Option.getD_some]
    have hpre := List.find?_some hf
    have hm := List.mem_of_find?_eq_some hf
    have hall : ∀ x ∈ signsL, 0 < x.size ∧ ∀ b ∈ x.data.toList, b.toNat < 128 := by decide
    obtain ⟨h0, ha⟩ := hall g hm
    have h1 : g.data.toList <+: s.data.toList.drop p := List.isPrefixOf_iff_prefix.1 hpre
    have hlen := h1.length_le
    rw [List.length_drop, len_size, len_size] at hlen
    have h2 : g.data.toList = (s.data.toList.drop p).take g.size := by
      have := List.prefix_iff_eq_take.1 h1
      rwa [len_size] at this
    refine ⟨h2, h0, by omega, reach_ascii g.size p (by omega) (fun i hi => ?_)⟩
    have h3 : byt s (p + i) = g.data.toList.getD i 0 := by
      rw [h2]
      simp [byt, List.getD, List.getElem?_take, List.getElem?_drop, hi]
    rw [h3]
    have hil : i < g.data.toList.length := by rw [len_size]; exact hi
    have : g.data.toList.getD i 0 = g.data.toList[i] := by rw [List.getD_eq_getElem?_getD, List.getElem?_eq_getElem hil]; rfl
    rw [this]
    exact ha _ (List.getElem_mem hil)
/-- What is read as a token stands there. -/
theorem tok_stands {s : ByteArray} {p : Nat} {t : Tk} (hp : p < s.size) (h : firstV (s.extract p s.size) (rn s p) = (t, 0)) : Stands s p t.text := by
  have h0 : (firstV (s.extract p s.size) (rn s p)).2 = 0 := by rw [h]
  have h1 : (firstV (s.extract p s.size) (rn s p)).1 = t := by rw [h]
  rw [← h1]
  clear h h1
  unfold firstV at h0 ⊢
  by_cases g1 : lt (rn s p) = true
  · have h2 := span_stands hp (by simp [wordC, g1])
    rw [if_pos g1] at h0 ⊢
    unfold namedV at h0 ⊢
    by_cases h3 : inB wordsL ((s.extract p s.size).extract 0 (spanE (s.extract p s.size))) = true
    · rw [if_pos h3]; exact h2
    · rw [if_neg h3] at h0 ⊢
      by_cases h4 : 64 < ((s.extract p s.size).extract 0 (spanE (s.extract p s.size))).size
      · rw [if_pos h4] at h0; simp at h0
      · rw [if_neg h4]; exact h2
  · rw [if_neg g1] at h0 ⊢
    by_cases g2 : decide (48 ≤ ((rn s p : Nat) : Int) ∧ ((rn s p : Nat) : Int) ≤ 57) = true
    · rw [if_pos g2]; exact span_stands hp (by simp only [wordC, g2, Bool.or_true])
    · rw [if_neg g2] at h0 ⊢
      by_cases h3 : signV (s.extract p s.size).data.toList = ⟨#[]⟩
      · rw [if_pos h3] at h0; simp at h0
      · have h5 := sign_stands hp h3
        rw [if_neg h3]
        by_cases h4 : signV (s.extract p s.size).data.toList = ⟨#[59]⟩
        · rw [if_pos h4]; rwa [h4] at h5
        · rw [if_neg h4]; exact h5
theorem cut_nl (l : List UInt8) : (Lib.cut l [10]).1 = l.takeWhile (· != 10) := by
  have hi : ∀ l : List UInt8, (Lib.index l [10] = -1 ∧ l.takeWhile (· != 10) = l) ∨ (∃ i : Nat, Lib.index l [10] = i ∧ l.takeWhile (· != 10) = l.take i) := by
    intro l
    induction l with
    | nil => exact .inl ⟨rfl, rfl⟩
    | cons b l ih =>
      by_cases hb : b = 10
      · subst hb
        exact .inr ⟨0, by simp [Lib.index, List.isPrefixOf], by simp⟩
      · have h1 : ([10] : List UInt8).isPrefixOf (b :: l) = false := by simp [List.isPrefixOf]; exact fun h => hb h.symm
        have h2 : (b != 10) = true := by simpa using hb
        rcases ih with ⟨h3, h4⟩ | ⟨i, h3, h4⟩
        · exact .inl ⟨by simp [Lib.index, h1, h3], by simp [List.takeWhile_cons, h2, h4]⟩
        · refine .inr ⟨i + 1, ?_, by simp [List.takeWhile_cons, h2, h4]⟩
          simp only [Lib.index, h1, h3]
          have : ((i : Int) == -1) = false := by simp
          simp [this]
  unfold Lib.cut
  rcases hi l with ⟨h1, h2⟩ | ⟨i, h1, h2⟩
  · rw [if_neg (by omega), h2]
  · rw [if_pos (by omega), h1, h2]
    simp
/-- Where a line ends. -/
def lineEnd (s : ByteArray) (p : Nat) : Nat := p + ((s.data.toList.drop p).takeWhile (· != 10)).length
theorem lineEnd_le {s : ByteArray} {p : Nat} (h : p ≤ s.size) : p ≤ lineEnd s p ∧ lineEnd s p ≤ s.size := by
  have h1 := (List.takeWhile_prefix (· != 10) (l := s.data.toList.drop p)).length_le
  rw [List.length_drop, len_size] at h1
  unfold lineEnd
  omega
theorem tw_at : ∀ (l : List UInt8) (n : Nat), (l.takeWhile (· != 10)).length = n → n < l.length → l.getD n 0 = 10
  | [], n, _, h => by simp at h
  | b :: l, n, h, hn => by
    by_cases hb : b = 10
    · subst hb; simp at h; subst h; simp
    · have h2 : (b != 10) = true := by simpa using hb
      rw [List.takeWhile_cons, if_pos h2, List.length_cons] at h
      subst h
      have := tw_at l _ rfl (by simpa using hn)
      simpa using this
theorem lineEnd_at {s : ByteArray} {p : Nat} (h : lineEnd s p < s.size) : byt s (lineEnd s p) = 10 := by
  have := tw_at (s.data.toList.drop p) _ rfl (by rw [List.length_drop, len_size]; unfold lineEnd at h; omega)
  unfold byt lineEnd
  simpa [List.getD, List.getElem?_drop] using this
theorem lineEnd_reach {s : ByteArray} {p : Nat} (h : p ≤ s.size) : Reach s p (lineEnd s p) :=
  reach_low _ _ _ (Nat.le_refl _) (lineEnd_le h).1 (lineEnd_le h).2 (fun hq => by rw [lineEnd_at hq]; decide)
theorem two_inside {s : ByteArray} {p : Nat} (h : Lib.hasPrefix (s.data.toList.drop p) [47, 47] = true) : p + 2 ≤ s.size ∧ byt s p = 47 ∧ byt s (p + 1) = 47 := by
  have h1 : [47, 47] <+: s.data.toList.drop p := List.isPrefixOf_iff_prefix.1 h
  obtain ⟨r, hr⟩ := h1
  have hl := congrArg List.length hr
  simp only [List.length_append, List.length_cons, List.length_nil, List.length_drop, len_size] at hl
  refine ⟨by omega, ?_, ?_⟩
  · have := congrArg (·.getD 0 0) hr
    simpa [byt, List.getD, List.getElem?_drop] using this.symm
  · have := congrArg (·.getD 1 0) hr
    simpa [byt, List.getD, List.getElem?_drop] using this.symm
theorem lineEnd_two {s : ByteArray} {p : Nat} (h : Lib.hasPrefix (s.data.toList.drop p) [47, 47] = true) : p + 2 ≤ lineEnd s p := by
  have h1 : [47, 47] <+: s.data.toList.drop p := List.isPrefixOf_iff_prefix.1 h
  obtain ⟨r, hr⟩ := h1
  unfold lineEnd
  rw [← hr]
  simp [List.takeWhile_cons]
/-- From token to token. -/
inductive Run (s : ByteArray) : Nat → List Tk → List Tk → Prop
  | fin {L F : List Tk} : endV L s.size = some F → Run s s.size L F
  | nl {p : Nat} {L L' F : List Tk} : p < s.size → byt s p = 10 → endV L p = some L' → Run s (p + 1) L' F → Run s p L F
  | blank {p : Nat} {L F : List Tk} : p < s.size → (byt s p = 9 ∨ byt s p = 13 ∨ byt s p = 32) → Run s (p + 1) L F → Run s p L F
  | rem {p : Nat} {L F : List Tk} : Lib.hasPrefix (s.data.toList.drop p) [47, 47] = true → Run s (lineEnd s p) L F → Run s p L F
  | tok {p : Nat} {t : Tk} {L F : List Tk} : p < s.size → TokAt s p t → L.length < 16384 → Run s (p + t.text.size) (L ++ [{ t with pos := p }]) F → Run s p L F
theorem byt_of {s : ByteArray} {p : Nat} {n : Nat} (hn : n < 128) (h : (rn s p : Int) = n) : (byt s p).toNat = n ∧ wd s p = 1 := by
  have h1 : rn s p = n := by omega
  have := rn_lt (s := s) (p := p) (by omega)
  omega
theorem byt_eq {s : ByteArray} {p : Nat} {n : Nat} (hn : n < 128) (h : (rn s p : Int) = n) : byt s p = UInt8.ofNat n ∧ wd s p = 1 := by
  obtain ⟨h1, h2⟩ := byt_of hn h
  exact ⟨by rw [← h1]; simp, h2⟩
theorem rn_of {s : ByteArray} {p : Nat} {c : UInt8} (hc : c.toNat < 128) (h : byt s p = c) : rn s p = c.toNat ∧ wd s p = 1 := by
  have := rn_byte (s := s) (p := p) (by rw [h]; exact hc)
  rw [h] at this
  exact ⟨by show (Utf8.decode s p).1 = _; rw [this], by show (Utf8.decode s p).2 = _; rw [this]⟩
theorem run_of (s : ByteArray) : ∀ (m p : Nat) (d : Int) (L F : List Tk), s.size - p ≤ m → p ≤ s.size → d ≤ p → scanP s p d L = .ok F → Run s p L F
  | m, p, d, L, F, hm, hp, hd, h => by
    by_cases hlt : p < s.size
    · rw [scanP_read hlt hd] at h
      cases m with
      | zero => omega
      | succ m =>
      have hw := wd_pos hlt
      have hl := wd_le hlt
      unfold readV at h
      by_cases c1 : ((rn s p : Nat) : Int) = 10
      · rw [if_pos c1] at h
        obtain ⟨b1, b2⟩ := byt_eq (n := 10) (by omega) c1
        cases he : endV L p with
        | none => rw [he] at h; cases h
        | some L' =>
          rw [he] at h
          simp only [b2] at h
          exact .nl hlt b1 he (run_of s m _ d L' F (by omega) (by omega) (by omega) h)
      · rw [if_neg c1] at h
        by_cases c2 : ((rn s p : Nat) : Int) = 9 ∨ ((rn s p : Nat) : Int) = 13 ∨ ((rn s p : Nat) : Int) = 32
        · rw [if_pos c2] at h
          have hb : (byt s p = 9 ∨ byt s p = 13 ∨ byt s p = 32) ∧ wd s p = 1 := by
            rcases c2 with c | c | c
            · obtain ⟨b1, b2⟩ := byt_eq (n := 9) (by omega) c; exact ⟨.inl b1, b2⟩
            · obtain ⟨b1, b2⟩ := byt_eq (n := 13) (by omega) c; exact ⟨.inr (.inl b1), b2⟩
            · obtain ⟨b1, b2⟩ := byt_eq (n := 32) (by omega) c; exact ⟨.inr (.inr b1), b2⟩
          simp only [hb.2] at h
          exact .blank hlt hb.1 (run_of s m _ d L F (by omega) (by omega) (by omega) h)
        · rw [if_neg c2] at h
          by_cases c3 : Lib.hasPrefix (s.data.toList.drop p) [47, 47] = true
          · rw [if_pos c3, cut_nl] at h
            simp only at h
            have h2 : scanP s (p + wd s p) (lineEnd s p : Nat) L = .ok F := h
            have h3 := lineEnd_two c3
            have h4 := (lineEnd_le hp).2
            rw [scan_skip ((lineEnd_reach hp).next (by omega))] at h2
            exact .rem c3 (run_of s m _ _ L F (by omega) h4 (Int.le_refl _) h2)
          · rw [if_neg c3] at h
            by_cases c4 : (firstV (s.extract p s.size) ((rn s p : Nat) : Int)).2 ≠ 0
            · rw [if_pos c4] at h; cases h
            · rw [if_neg c4] at h
              by_cases c5 : 16384 ≤ L.length
              · rw [if_pos c5] at h; cases h
              · rw [if_neg c5] at h
                simp only at h
                obtain ⟨t, ht⟩ : ∃ t, (firstV (s.extract p s.size) ((rn s p : Nat) : Int)).1 = t := ⟨_, rfl⟩
                have hf : firstV (s.extract p s.size) ((rn s p : Nat) : Int) = (t, 0) := Prod.ext ht (Classical.not_not.1 c4)
                rw [ht] at h
                have hs := tok_stands hlt hf
                have h2 : scanP s (p + wd s p) (p + t.text.size : Nat) (L ++ [{ t with pos := p }]) = .ok F := h
                have := hs.pos
                have := hs.room
                rw [scan_skip (hs.reach.next (by omega))] at h2
                exact .tok hlt ⟨c1, c2, by simpa using c3, hf⟩ (by omega) (run_of s m _ _ _ F (by omega) hs.room (Int.le_refl _) h2)
    · rw [scanP_end hlt] at h
      obtain rfl : p = s.size := by omega
      cases he : endV L s.size with
      | none => rw [he] at h; cases h
      | some L' => rw [he] at h; cases h; exact .fin he
theorem of_run {s : ByteArray} {p : Nat} {L F : List Tk} (h : Run s p L F) : ∀ d : Int, p ≤ s.size → d ≤ p → scanP s p d L = .ok F := by
  induction h with
  | fin he => intro d _ _; rw [scanP_end (by omega), he]
  | @nl p L L' F hp hb he _ ih =>
    intro d _ hd
    obtain ⟨h1, h2⟩ := rn_of (c := 10) (by decide) hb
    rw [scanP_read hp hd, show readV s d L p ((rn s p : Nat) : Int) = .ok (d, L') by unfold readV; rw [h1, if_pos (by decide), he]]
    simp only [h2]
    exact ih d (by omega) (by omega)
  | @blank p L F hp hb _ ih =>
    intro d _ hd
    have h1 : readV s d L p ((rn s p : Nat) : Int) = .ok (d, L) ∧ wd s p = 1 := by
      rcases hb with hb | hb | hb
      · obtain ⟨h1, h2⟩ := rn_of (c := 9) (by decide) hb
        exact ⟨by unfold readV; rw [h1, if_neg (by decide), if_pos (by decide)], h2⟩
      · obtain ⟨h1, h2⟩ := rn_of (c := 13) (by decide) hb
        exact ⟨by unfold readV; rw [h1, if_neg (by decide), if_pos (by decide)], h2⟩
      · obtain ⟨h1, h2⟩ := rn_of (c := 32) (by decide) hb
        exact ⟨by unfold readV; rw [h1, if_neg (by decide), if_pos (by decide)], h2⟩
    rw [scanP_read hp hd, h1.1]
    simp only [h1.2]
    exact ih d (by omega) (by omega)
  | @rem p L F hc _ ih =>
    intro d hp hd
    obtain ⟨h0, b1, _⟩ := two_inside hc
    obtain ⟨h1, h2⟩ := rn_of (c := 47) (by decide) b1
    have h3 := lineEnd_two hc
    rw [scanP_read (by omega) hd, show readV s d L p ((rn s p : Nat) : Int) = .ok ((lineEnd s p : Nat), L) by unfold readV; rw [h1, if_neg (by decide), if_neg (by decide), if_pos hc, cut_nl]; rfl]
    simp only
    rw [scan_skip ((lineEnd_reach hp).next (by omega))]
    exact ih _ (lineEnd_le hp).2 (Int.le_refl _)
  | @tok p t L F hp ht hL _ ih =>
    intro d _ hd
    obtain ⟨c1, c2, c3, hf⟩ := ht
    have hs := tok_stands hp hf
    have := hs.pos
    rw [scanP_read hp hd, show readV s d L p ((rn s p : Nat) : Int) = .ok ((p + t.text.size : Nat), L ++ [{ t with pos := p }]) by unfold readV; rw [if_neg c1, if_neg c2, if_neg (by rw [c3]; decide), hf, if_neg (by simp), if_neg (by omega)]]
    simp only
    rw [scan_skip (hs.reach.next (by omega))]
    exact ih _ hs.room (Int.le_refl _)
theorem toks_run {s : ByteArray} {L : List Tk} (h : toksV s = .ok L) : s.size ≤ 65536 ∧ badV s = none ∧ Run s 0 [] L := by
  unfold toksV at h
  split at h
  · cases h
  · split at h
    · cases h
    · rename_i hb
      exact ⟨by omega, hb, run_of s _ 0 0 [] L (Nat.le_refl _) (by omega) (by omega) h⟩
theorem toks_of {s : ByteArray} {L : List Tk} (h1 : s.size ≤ 65536) (h2 : badV s = none) (h : Run s 0 [] L) : toksV s = .ok L := by
  unfold toksV
  rw [if_neg (by omega), h2]
  exact of_run h 0 (by omega) (by omega)
end Go.Proofs.YtjpmgloofcgfnaaDoor

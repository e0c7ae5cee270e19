/- A text that is cut off at a place: what is read ahead of it is the same. No program in sight but the plain function of Tokens. -/
import Derived.Test.YtjpmgloofcgfnaaDoorD1
namespace Go.Proofs.YtjpmgloofcgfnaaDoor
open Go.RowKit
set_option linter.unusedVariables false
set_option linter.unusedSimpArgs false

/-- The text up to a place. -/
abbrev cutTo (s : ByteArray) (a : Nat) : ByteArray := s.extract 0 a
theorem cut_list (s : ByteArray) (a : Nat) : (cutTo s a).data.toList = s.data.toList.take a := by
  rw [Lib.extract_data]; simp
theorem cut_size {s : ByteArray} {a : Nat} (h : a ≤ s.size) : (cutTo s a).size = a := by
  rw [ByteArray.size_extract]; omega
theorem cut_byt {s : ByteArray} {a p : Nat} (h : p < a) : byt (cutTo s a) p = byt s p := by
  unfold byt
  rw [cut_list, List.getD_eq_getElem?_getD, List.getD_eq_getElem?_getD, List.getElem?_take, if_pos h]
set_option maxRecDepth 100000 in
set_option maxHeartbeats 4000000 in
/-- A character whose bytes are all there is the same, whatever follows. -/
theorem decodeN_less (n n' b0 b1 b2 b3 c1 c2 c3 : Nat) (hn : n' ≤ n) (hw : (Lib.decodeN n b0 b1 b2 b3).2 ≤ n') (h1 : 1 < n' → c1 = b1) (h2 : 2 < n' → c2 = b2) (h3 : 3 < n' → c3 = b3) :
    Lib.decodeN n' b0 c1 c2 c3 = Lib.decodeN n b0 b1 b2 b3 := by
  by_cases k1 : 1 < n'
  · obtain rfl := h1 k1
    by_cases k2 : 2 < n'
    · obtain rfl := h2 k2
      by_cases k3 : 3 < n'
      · obtain rfl := h3 k3
        unfold Lib.decodeN
        have e1 : (1 < n') = (1 < n) := propext ⟨fun _ => by omega, fun _ => k1⟩
        have e2 : (2 < n') = (2 < n) := propext ⟨fun _ => by omega, fun _ => k2⟩
        have e3 : (3 < n') = (3 < n) := propext ⟨fun _ => by omega, fun _ => k3⟩
        simp only [e1, e2, e3]
      · have e1 : (1 < n') = (1 < n) := propext ⟨fun _ => by omega, fun _ => k1⟩
        have e2 : (2 < n') = (2 < n) := propext ⟨fun _ => by omega, fun _ => k2⟩
        unfold Lib.decodeN at hw ⊢
        simp only [e1, e2] at hw ⊢
        revert hw
        repeat' split
        all_goals first | (intro; rfl) | (intro hw; exfalso; simp only at hw; omega) | (intro; exfalso; omega)
    · have e1 : (1 < n') = (1 < n) := propext ⟨fun _ => by omega, fun _ => k1⟩
      unfold Lib.decodeN at hw ⊢
      simp only [e1] at hw ⊢
      revert hw
      repeat' split
      all_goals first | (intro; rfl) | (intro hw; exfalso; simp only at hw; omega) | (intro; exfalso; omega)
  · unfold Lib.decodeN at hw ⊢
    revert hw
    repeat' split
    all_goals first | (intro; rfl) | (intro hw; exfalso; simp only at hw; omega) | (intro; exfalso; omega)
theorem cut_dec {s : ByteArray} {a p : Nat} (ha : a ≤ s.size) (hp : p < a) (hw : p + wd s p ≤ a) : Utf8.decode (cutTo s a) p = Utf8.decode s p := by
  rw [dec_N, dec_N, cut_size ha, cut_byt hp]
  have hw2 : (Utf8.decode s p).2 ≤ a - p := by show wd s p ≤ a - p; omega
  rw [dec_N] at hw2
  exact decodeN_less _ _ _ _ _ _ _ _ _ (by omega) hw2 (fun h => by rw [cut_byt (by omega)]) (fun h => by rw [cut_byt (by omega)]) (fun h => by rw [cut_byt (by omega)])
theorem cut_prefix {s : ByteArray} {a p : Nat} (g : List UInt8) (hp : p ≤ a) (ha : a ≤ s.size) : Lib.hasPrefix ((cutTo s a).data.toList.drop p) g = (Lib.hasPrefix (s.data.toList.drop p) g && decide (p + g.length ≤ a)) := by
  rw [cut_list, List.drop_take]
  unfold Lib.hasPrefix
  apply Bool.eq_iff_iff.2
  rw [Bool.and_eq_true, decide_eq_true_eq, List.isPrefixOf_iff_prefix, List.isPrefixOf_iff_prefix]
  constructor
  · intro h
    have h2 := h.length_le
    rw [List.length_take, List.length_drop, len_size] at h2
    exact ⟨h.trans (List.take_prefix _ _), by omega⟩
  · intro ⟨h, hl⟩
    have := List.prefix_iff_eq_take.1 h
    rw [this]
    exact List.take_prefix_take_left (by omega)
theorem tw_take (f : UInt8 → Bool) : ∀ (l : List UInt8) (n : Nat), (l.take n).takeWhile f = (l.takeWhile f).take n
  | [], n => by simp
  | b :: l, 0 => by simp
  | b :: l, n + 1 => by
    rw [List.take_succ_cons, List.takeWhile_cons, List.takeWhile_cons]
    split
    · rw [List.take_succ_cons, tw_take f l n]
    · rfl
theorem cut_line {s : ByteArray} {a p : Nat} (hp : p ≤ a) (hl : lineEnd s p ≤ a) : lineEnd (cutTo s a) p = lineEnd s p := by
  unfold lineEnd at hl ⊢
  rw [cut_list, List.drop_take, tw_take, List.length_take]
  omega
/-- Letters and digits from p on end at e. -/
inductive Span (s : ByteArray) : Nat → Nat → Prop
  | fin : Span s s.size s.size
  | stop {p : Nat} : p < s.size → wordC (rn s p) = false → Span s p p
  | step {p e : Nat} : p < s.size → wordC (rn s p) = true → Span s (p + wd s p) e → Span s p e
theorem Span.le {s : ByteArray} {p e : Nat} (h : Span s p e) : p ≤ e := by
  induction h with
  | fin => exact Nat.le_refl _
  | stop _ _ => exact Nat.le_refl _
  | step _ _ _ ih => omega
theorem span_of (s : ByteArray) (p : Nat) : ∀ (b q : Nat), q ≤ (s.extract p s.size).size → (s.extract p s.size).size ≤ q + b → p ≤ s.size → Span s (p + q) (p + spanAt (s.extract p s.size) b q)
  | 0, q, h, hb, hps => by
    rw [spanAt, show q = (s.extract p s.size).size by omega, Lib.tail_size, show p + (s.size - p) = s.size by omega]
    exact .fin
  | b + 1, q, h, hb, hps => by
    rw [spanAt]
    split
    · rename_i hq
      have hs : p + q < s.size := by rw [Lib.tail_size] at hq; omega
      have er : rn s (p + q) = rn (s.extract p s.size) q := by show (Utf8.decode s (p + q)).1 = (Utf8.decode (s.extract p s.size) q).1; rw [Lib.tail_decode]
      have ew : wd s (p + q) = wd (s.extract p s.size) q := by show (Utf8.decode s (p + q)).2 = (Utf8.decode (s.extract p s.size) q).2; rw [Lib.tail_decode]
      have hw := wd_pos hq
      have hl := wd_le hq
      split
      · rename_i hc
        refine .step hs (by rw [er]; exact hc) ?_
        rw [ew, Nat.add_assoc]
        exact span_of s p b _ hl (by omega) hps
      · rename_i hc
        exact .stop hs (by rw [er]; simpa using hc)
    · rename_i hq
      rw [show q = (s.extract p s.size).size by omega, Lib.tail_size, show p + (s.size - p) = s.size by omega]
      exact .fin
theorem Span.one {s : ByteArray} {p e f : Nat} (h : Span s p e) (k : Span s p f) : e = f := by
  induction h with
  | fin =>
    cases k with
    | fin => rfl
    | stop h _ => omega
    | step h _ _ => omega
  | stop h1 h2 =>
    cases k with
    | fin => omega
    | stop _ _ => rfl
    | step _ h3 _ => rw [h2] at h3; cases h3
  | step h1 h2 _ ih =>
    cases k with
    | fin => omega
    | stop _ h3 => rw [h2] at h3; cases h3
    | step _ _ h4 => exact ih h4
theorem span_is {s : ByteArray} {p e : Nat} (hp : p ≤ s.size) (h : Span s p e) : spanE (s.extract p s.size) = e - p := by
  have h2 := span_of s p (s.extract p s.size).size 0 (Nat.zero_le _) (by omega) hp
  rw [Nat.add_zero] at h2
  have := h.one h2
  show spanAt (s.extract p s.size) (s.extract p s.size).size 0 = e - p
  omega
theorem Span.cut {s : ByteArray} {a p e : Nat} (h : Span s p e) (ha : a ≤ s.size) (he : e ≤ a) (hr : Reach s p a) : Span (cutTo s a) p e := by
  have hsz := cut_size ha
  induction h with
  | fin =>
    have : a = s.size := by omega
    subst this
    have h2 : Span (cutTo s s.size) (cutTo s s.size).size (cutTo s s.size).size := .fin
    rwa [hsz] at h2
  | @stop p h1 h2 =>
    by_cases hpa : p = a
    · subst hpa
      have h3 : Span (cutTo s p) (cutTo s p).size (cutTo s p).size := .fin
      rwa [hsz] at h3
    · have hw := (hr.next (by omega)).le
      exact .stop (by omega) (by show wordC (Utf8.decode (cutTo s a) p).1 = false; rw [cut_dec ha (by omega) hw]; exact h2)
  | @step p e h1 h2 h3 ih =>
    have := h3.le
    have hw := wd_pos h1
    have hn := hr.next (by omega)
    have hd := cut_dec ha (by omega) hn.le
    refine .step (by omega) (by show wordC (Utf8.decode (cutTo s a) p).1 = true; rw [hd]; exact h2) ?_
    have e2 : wd (cutTo s a) p = wd s p := congrArg Prod.snd hd
    rw [e2]; exact ih he hn
/-- Letters and digits that end ahead of the cut are the same text. -/
theorem cut_span {s : ByteArray} {a p : Nat} (ha : a ≤ s.size) (hr : Reach s p a) (hp : p < a) (he : p + spanE (s.extract p s.size) ≤ a) :
    ((cutTo s a).extract p (cutTo s a).size).extract 0 (spanE ((cutTo s a).extract p (cutTo s a).size)) = (s.extract p s.size).extract 0 (spanE (s.extract p s.size)) := by
  have h1 := span_of s p (s.extract p s.size).size 0 (Nat.zero_le _) (by omega) (by omega)
  rw [Nat.add_zero] at h1
  have h2 : Span s p (p + spanE (s.extract p s.size)) := h1
  have h3 := span_is (s := cutTo s a) (by rw [cut_size ha]; omega) (h2.cut ha he hr)
  rw [h3, show p + spanE (s.extract p s.size) - p = spanE (s.extract p s.size) by omega]
  apply ByteArray.ext
  apply Array.toList_inj.1
  rw [Lib.extract_data _ 0, rest_list, cut_list, Lib.extract_data _ 0, rest_list, List.drop_zero, List.drop_zero, List.drop_take, List.take_take]
  congr 1
  omega
theorem find_same {α : Type} (f g : α → Bool) : ∀ (l : List α) (x : α), l.find? f = some x → g x = true → (∀ y ∈ l, g y = true → f y = true) → l.find? g = some x
  | [], x, h, _, _ => by simp at h
  | b :: l, x, h, hx, hi => by
    rw [List.find?_cons] at h ⊢
    cases hg : g b with
    | true =>
      have := hi b (by simp) hg
      rw [this] at h
      exact h
    | false =>
      cases hf : f b with
      | true => rw [hf] at h; cases h; rw [hg] at hx; cases hx
      | false => rw [hf] at h; exact find_same f g l x h hx (fun y hy => hi y (by simp [hy]))
theorem cut_sign {s : ByteArray} {a p : Nat} (ha : a ≤ s.size) (hp : p ≤ a) (h0 : signV (s.extract p s.size).data.toList ≠ ⟨#[]⟩) (he : p + (signV (s.extract p s.size).data.toList).size ≤ a) :
    signV ((cutTo s a).extract p (cutTo s a).size).data.toList = signV (s.extract p s.size).data.toList := by
  rw [rest_list] at h0 he ⊢
  rw [rest_list]
  unfold signV at h0 he ⊢
  cases hf : signsL.find? (fun g => Lib.hasPrefix (s.data.toList.drop p) g.data.toList) with
  | none => rw [hf] at h0; exact absurd rfl h0
  | some g =>
    rw [hf] at he
    simp only [Option.getD_some] at he
    have h1 := List.find?_some hf
    rw [find_same _ (fun g => Lib.hasPrefix ((cutTo s a).data.toList.drop p) g.data.toList) signsL g hf (by
      show Lib.hasPrefix _ _ = true
      rw [cut_prefix _ hp ha, h1, len_size]; simp [he]) (fun y _ hy => by
      have hy2 : Lib.hasPrefix ((cutTo s a).data.toList.drop p) y.data.toList = true := hy
      rw [cut_prefix _ hp ha, Bool.and_eq_true] at hy2
      exact hy2.1)]
/-- A token that ends ahead of the cut is the same. -/
theorem cut_tok {s : ByteArray} {a p : Nat} {t : Tk} (ha : a ≤ s.size) (hr : Reach s p a) (hp : p < a) (ht : TokAt s p t) (he : p + t.text.size ≤ a) : TokAt (cutTo s a) p t := by
  have hps : p < s.size := by omega
  have hs := tok_stands hps ht.2.2.2
  have hd := cut_dec ha hp (hr.next hp).le
  have er : rn (cutTo s a) p = rn s p := congrArg Prod.fst hd
  obtain ⟨c1, c2, c3, hf⟩ := ht
  refine ⟨by rw [er]; exact c1, by rw [er]; exact c2, by rw [cut_prefix _ (by omega) ha, c3]; rfl, ?_⟩
  rw [er]
  unfold firstV at hf ⊢
  by_cases g1 : lt (rn s p) = true
  · rw [if_pos g1] at hf ⊢
    have hE : p + spanE (s.extract p s.size) ≤ a := by
      unfold namedV at hf
      have h2 := span_stands hps (by simp [wordC, g1])
      have hsz : ((s.extract p s.size).extract 0 (spanE (s.extract p s.size))).size = spanE (s.extract p s.size) := by
        have h3 := span_reach s p (s.extract p s.size).size 0 (by omega) (by omega)
        have h4 : p + spanE (s.extract p s.size) ≤ s.size := h3.inside (by omega)
        rw [ByteArray.size_extract, Lib.tail_size]; omega
      by_cases h3 : inB wordsL ((s.extract p s.size).extract 0 (spanE (s.extract p s.size))) = true
      · rw [if_pos h3] at hf; cases hf; rw [hsz] at he; exact he
      · rw [if_neg h3] at hf
        by_cases h4 : 64 < ((s.extract p s.size).extract 0 (spanE (s.extract p s.size))).size
        · rw [if_pos h4] at hf; simp at hf
        · rw [if_neg h4] at hf; cases hf; rw [hsz] at he; exact he
    rw [cut_span ha hr hp hE]
    exact hf
  · rw [if_neg g1] at hf ⊢
    by_cases g2 : decide (48 ≤ ((rn s p : Nat) : Int) ∧ ((rn s p : Nat) : Int) ≤ 57) = true
    · rw [if_pos g2] at hf ⊢
      have hE : p + spanE (s.extract p s.size) ≤ a := by
        have hsz : ((s.extract p s.size).extract 0 (spanE (s.extract p s.size))).size = spanE (s.extract p s.size) := by
          have h3 := span_reach s p (s.extract p s.size).size 0 (by omega) (by omega)
          have h4 : p + spanE (s.extract p s.size) ≤ s.size := h3.inside (by omega)
          rw [ByteArray.size_extract, Lib.tail_size]; omega
        have h1 := congrArg (fun x => x.1.text.size) hf
        simp only at h1
        rw [hsz] at h1
        omega
      rw [cut_span ha hr hp hE]
      exact hf
    · rw [if_neg g2] at hf ⊢
      by_cases h3 : signV (s.extract p s.size).data.toList = ⟨#[]⟩
      · rw [if_pos h3] at hf; simp at hf
      · have hE : p + (signV (s.extract p s.size).data.toList).size ≤ a := by
          rw [if_neg h3] at hf
          by_cases h4 : signV (s.extract p s.size).data.toList = ⟨#[59]⟩
          · rw [if_pos h4] at hf; cases hf; rw [h4]; exact he
          · rw [if_neg h4] at hf; cases hf; exact he
        rw [cut_sign ha (by omega) h3 hE]
        exact hf
end Go.Proofs.YtjpmgloofcgfnaaDoor

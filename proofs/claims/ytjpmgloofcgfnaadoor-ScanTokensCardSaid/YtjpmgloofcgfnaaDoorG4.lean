/- The token at a place, by the reference, is the one that package scan reads there. No condition but the text's size. -/
import Derived.Test.YtjpmgloofcgfnaaDoorG3
namespace Go.Proofs.YtjpmgloofcgfnaaDoor
open Go.RowKit
set_option linter.unusedVariables false
set_option linter.unusedSimpArgs false

/-- What next answers at place p. -/
def NextP (s : ByteArray) (p : Nat) (x : Tk × Int) (w : World) (e : Ending) (w' : World) : Prop :=
  Kp w w' ∧ ∃ (t : Tk) (en : Int), e = .returned (nextE t en x.2) ∧ (x.2 = 0 → t = { x.1 with pos := (p : Int) } ∧ en = ((p + x.1.text.size : Nat) : Int))
theorem words_short : ∀ x ∈ wordsL, x.size ≤ 8 := by decide
theorem ext_span {s : ByteArray} {p n : Nat} : (s.extract p s.size).extract 0 n = s.extract p (p + n) := by
  apply ByteArray.ext
  apply Array.toList_inj.1
  rw [Lib.extract_data _ 0, rest_list, sub_list]
  simp
theorem span_fact {s : ByteArray} {p : Nat} (hp : p < s.size) (hc : wordC (rn s p) = true) : 0 < spanE (s.extract p s.size) ∧ p + spanE (s.extract p s.size) ≤ s.size ∧ (s.extract p (p + spanE (s.extract p s.size))).size = spanE (s.extract p s.size) := by
  have h1 := span_reach s p (s.extract p s.size).size 0 (by omega) (by omega)
  have h2 : p + spanE (s.extract p s.size) ≤ s.size := h1.inside (by omega)
  have h3 := spanE_pos (s.extract p s.size) (by rw [Lib.tail_size]; omega) (by rw [Lib.tail_decode]; exact hc)
  exact ⟨h3, h2, by rw [ByteArray.size_extract]; omega⟩
theorem byte_letter {s : ByteArray} {p : Nat} (h : lt (rn s p) = true) : (byt s p).toNat < 48 ∨ 57 < (byt s p).toNat := by
  by_cases h1 : (byt s p).toNat < 128
  · have h2 := rn_byte h1
    have h3 : rn s p = (byt s p).toNat := by show (Utf8.decode s p).1 = _; rw [h2]
    rw [h3] at h
    unfold lt at h
    have := of_decide_eq_true h
    omega
  · omega
theorem c_next (s : ByteArray) (p : Nat) (w : World) (hp : p < s.size) (hs : s.size ≤ 65536) : Calls Tryd.prog 26 #[.string s, .int .i64 p] w (NextP s p (firstV (s.extract p s.size) (rn s p)) w) := by
  by_cases hc : wordC (rn s p) = true
  · obtain ⟨h0, hen, hsz⟩ := span_fact hp hc
    obtain ⟨en, hE⟩ : ∃ en, p + spanE (s.extract p s.size) = en := ⟨_, rfl⟩
    rw [hE] at hen hsz
    have hl : p < en := by omega
    by_cases g1 : lt (rn s p) = true
    · have hby := byte_letter g1
      have hf : firstV (s.extract p s.size) (rn s p) = namedV (s.extract p en) := by unfold firstV; rw [if_pos g1, ext_span, hE]
      rw [hf]
      by_cases h64 : 64 < en - p
      · have hw : inB wordsL (s.extract p en) = false := inB_no (fun hm => by have := words_short _ hm; omega)
        have hn : namedV (s.extract p en) = (noTk, 6) := by unfold namedV; rw [if_neg (by rw [hw]; decide), if_pos (by omega)]
        rw [hn]
        rcases hby with hd | hd
        · exact (next_large_lo s p en w hp hs hE hen hd hl h64).mono fun e w' ⟨h1, h2⟩ => ⟨h2, noTk, en, h1, fun h => by cases h⟩
        · exact (next_large_hi s p en w hp hs hE hen hd hl h64).mono fun e w' ⟨h1, h2⟩ => ⟨h2, noTk, en, h1, fun h => by cases h⟩
      · cases hw : inB wordsL (s.extract p en) with
        | true =>
          have hn : namedV (s.extract p en) = (⟨3, s.extract p en, 0, 0⟩, 0) := by unfold namedV; rw [if_pos hw]
          rw [hn]
          rcases hby with hd | hd
          · exact (next_w3_lo s p en w hp hs hE hen hd hl (by omega) hw).mono fun e w' ⟨h1, h2⟩ => ⟨h2, _, en, h1, fun _ => ⟨rfl, by show (en : Int) = ((p + (s.extract p en).size : Nat) : Int); omega⟩⟩
          · exact (next_w3_hi s p en w hp hs hE hen hd hl (by omega) hw).mono fun e w' ⟨h1, h2⟩ => ⟨h2, _, en, h1, fun _ => ⟨rfl, by show (en : Int) = ((p + (s.extract p en).size : Nat) : Int); omega⟩⟩
        | false =>
          have hn : namedV (s.extract p en) = (⟨1, s.extract p en, 0, 0⟩, 0) := by unfold namedV; rw [if_neg (by rw [hw]; decide), if_neg (by omega)]
          rw [hn]
          rcases hby with hd | hd
          · exact (next_w1_lo s p en w hp hs hE hen hd hl (by omega) hw).mono fun e w' ⟨h1, h2⟩ => ⟨h2, _, en, h1, fun _ => ⟨rfl, by show (en : Int) = ((p + (s.extract p en).size : Nat) : Int); omega⟩⟩
          · exact (next_w1_hi s p en w hp hs hE hen hd hl (by omega) hw).mono fun e w' ⟨h1, h2⟩ => ⟨h2, _, en, h1, fun _ => ⟨rfl, by show (en : Int) = ((p + (s.extract p en).size : Nat) : Int); omega⟩⟩
    · have g2 : decide (48 ≤ ((rn s p : Nat) : Int) ∧ ((rn s p : Nat) : Int) ≤ 57) = true := by
        unfold wordC at hc
        simpa [g1] using hc
      have g3 := of_decide_eq_true g2
      have hb := (rn_lt (s := s) (p := p) (by omega)).1
      have hf : firstV (s.extract p s.size) (rn s p) = (⟨2, s.extract p en, (numV (s.extract p en).data.toList).1, 0⟩, (numV (s.extract p en).data.toList).2) := by unfold firstV; rw [if_neg g1, if_pos g2, ext_span, hE]
      rw [hf]
      obtain ⟨x, er, hn⟩ : ∃ x er, numV (s.extract p en).data.toList = (x, er) := ⟨_, _, rfl⟩
      rw [hn]
      exact (next_num s p en w hp hs hE hen x er (by omega) hl hn).mono fun e w' ⟨h1, h2⟩ => ⟨h2, _, en, h1, fun _ => ⟨rfl, by show (en : Int) = ((p + (s.extract p en).size : Nat) : Int); omega⟩⟩
  · have hc2 : wordC (rn s p) = false := by simpa using hc
    have hE : p + spanE (s.extract p s.size) = p := by
      have := span_is (by omega) (Span.stop hp hc2)
      omega
    have g1 : ¬ lt (rn s p) = true := fun h => hc (by simp [wordC, h])
    have g2 : ¬ decide (48 ≤ ((rn s p : Nat) : Int) ∧ ((rn s p : Nat) : Int) ≤ 57) = true := fun h => hc (by unfold wordC; rw [h]; simp)
    have hf : firstV (s.extract p s.size) (rn s p) = (if signV (s.extract p s.size).data.toList = ⟨#[]⟩ then (noTk, 4) else if signV (s.extract p s.size).data.toList = ⟨#[59]⟩ then (⟨5, ⟨#[59]⟩, 0, 0⟩, 0) else (⟨4, signV (s.extract p s.size).data.toList, 0, 0⟩, 0)) := by unfold firstV; rw [if_neg g1, if_neg g2]
    rw [hf]
    have h2 := sign_size (s.extract p s.size).data.toList
    obtain ⟨g, hg⟩ : ∃ g, signV (s.extract p s.size).data.toList = g := ⟨_, rfl⟩
    rw [hg] at h2 ⊢
    by_cases k0 : g = ⟨#[]⟩
    · rw [if_pos k0]
      exact (next_none s p p w hp hs hE (by omega) rfl (hg.trans k0)).mono fun e w' ⟨h1, h2⟩ => ⟨h2, noTk, p, h1, fun h => by cases h⟩
    · rw [if_neg k0]
      by_cases k1 : g = ⟨#[59]⟩
      · rw [if_pos k1]
        exact (next_semi s p p w hp hs hE (by omega) rfl (hg.trans k1)).mono fun e w' ⟨h1, h2⟩ => ⟨h2, _, _, h1, fun _ => ⟨rfl, by show (p : Int) + 1 = ((p + 1 : Nat) : Int); omega⟩⟩
      · rw [if_neg k1]
        exact (next_sign s p p w hp hs hE (by omega) rfl g hg k0 k1 h2).mono fun e w' ⟨h1, h2⟩ => ⟨h2, _, _, h1, fun _ => ⟨rfl, by show (p : Int) + (g.size : Int) = ((p + g.size : Nat) : Int); omega⟩⟩
theorem mem_l (L : List ByteArray) (x : ByteArray) : x ∈ L ↔ x.data.toList ∈ L.map (fun b => b.data.toList) := by
  rw [List.mem_map]
  constructor
  · intro h; exact ⟨x, h, rfl⟩
  · rintro ⟨y, hy, e⟩
    have : y = x := ByteArray.ext (Array.toList_inj.1 e)
    rwa [this] at hy
theorem mem_all (A B C : List ByteArray) (h : ∀ x ∈ A.map (fun b => b.data.toList), x ∈ B.map (fun b => b.data.toList) → x ∈ C.map (fun b => b.data.toList)) : ∀ x ∈ A, x ∈ B → x ∈ C := fun x ha hb =>
  (mem_l C x).2 (h _ ((mem_l A x).1 ha) ((mem_l B x).1 hb))
theorem mem_sub (A C : List ByteArray) (h : ∀ x ∈ A.map (fun b => b.data.toList), x ∈ C.map (fun b => b.data.toList)) : ∀ x ∈ A, x ∈ C := fun x ha =>
  (mem_l C x).2 (h _ ((mem_l A x).1 ha))
/-- For a token that stands in a text both say alike whether a statement ends behind it. -/
theorem clos_ends {s : ByteArray} {c : Int} {t : Tk} (h : firstV s c = (t, 0)) (q : Int) : closB { t with pos := q } = endsB { t with pos := q } := by
  have d3 : ∀ x ∈ wordsL, x ∈ lawL → x ∈ end3L := mem_all _ _ _ (by decide +kernel)
  have d4 : ∀ x ∈ signsL, x ∈ lawL → x ∈ end4L := mem_all _ _ _ (by decide +kernel)
  have e3 : ∀ x ∈ end3L, x ∈ lawL := mem_sub _ _ (by decide +kernel)
  have e4 : ∀ x ∈ end4L, x ∈ lawL := mem_sub _ _ (by decide +kernel)
  have d5 : (⟨#[59]⟩ : ByteArray) ∉ lawL := fun h => absurd ((mem_l lawL _).1 h) (by decide +kernel)
  have key : ∀ (L M : List ByteArray) (x : ByteArray), (x ∈ L ↔ x ∈ M) → inB L x = inB M x := fun L M x hx => by
    apply Bool.eq_iff_iff.2
    rw [inB_iff, inB_iff]; exact hx
  unfold firstV at h
  split at h
  · unfold namedV at h
    split at h
    · rename_i hw
      cases h
      unfold closB endsB
      simp only [key lawL end3L _ ⟨fun hx => d3 _ (inB_iff.1 hw) hx, fun hx => e3 _ hx⟩]
      simp
    · split at h
      · cases h
      · cases h; unfold closB endsB; simp
  · split at h
    · have h1 := congrArg Prod.fst h
      simp only at h1
      subst h1
      unfold closB endsB; simp
    · split at h
      · cases h
      · split at h
        · cases h
          unfold closB endsB
          simp [inB_no d5]
        · rename_i hs1 hs2
          cases h
          have hm : signV s.data.toList ∈ signsL := by
            unfold signV at hs1 ⊢
            cases hf : signsL.find? (fun g => Lib.hasPrefix s.data.toList g.data.toList) with
            | none => rw [hf] at hs1; exact absurd rfl hs1
            | some g => exact List.mem_of_find?_eq_some hf
          unfold closB endsB
          simp only [key lawL end4L _ ⟨fun hx => d4 _ hm hx, fun hx => e4 _ hx⟩]
          simp
end Go.Proofs.YtjpmgloofcgfnaaDoor

/- The text of a type: what the closure of Text writes. Condition: the type is sound and lies below the builder. -/
import Derived.Test.YtcaffohojaobaaaH
import Derived.Deep.RegionHeld3
import Derived.Laws.EntriesVeiled
namespace Go.Proofs.Ytcaffohojaobaaa
open Go.RowKit
set_option linter.unusedVariables false
set_option linter.unusedSimpArgs false

/-- A type that lies below block b. -/
def Low (b : Nat) : Sel := ⟨False, fun k => k < b⟩
theorem Wr.fr {b : Nat} {w w' : World} (h : Wr b w w') : Fr (fun k => ¬ k < b) w w' := fun k hk hn => by
  have hb : k < b := Classical.not_not.1 hn
  exact h.blk k hk (by omega) (.inl hb)
theorem Lies.wr {b : Nat} {w w' : World} {r : Nat} {T : Ty} {h : Hd} (hl : Lies w (Low b) r T h) (hw : Wr b w w') : Lies w' (Low b) r T h :=
  hl.turn hw.fr hw.sz (fun k _ (hS : k < b) hn => hn hS)
theorem Wr.notB {b : Nat} {w w' : World} (h : Wr b w w') {k : Nat} (hk : k < w.heap.size) (hb : k ≠ b) (hn : ¬ isB w k) : ¬ isB w' k := fun ⟨cs, fr, e⟩ => hn ⟨cs, fr, (h.blk k hk hb (.inr hn)).symm.trans e⟩
theorem notB_of {w : World} {k : Nat} {cs : Array Value} {t : TypeId} {fr : Nat × Nat} (h : w.heap[k]? = some (.cells cs t fr)) (ht : t ≠ 5) : ¬ isB w k := fun ⟨cs', fr', e⟩ => by
  rw [h] at e; simp at e; exact ht e.2.1
/-- What the closure has captured. -/
structure EnvT (w : World) (b lp : Nat) : Prop where
  el : w.cell? ⟨lp, 0, none⟩ = some (.func (.func 39) #[] #[.pointer (some ⟨b, 0, none⟩), .pointer (some ⟨lp, 0, none⟩)])
  ne : lp ≠ b
  nb : ¬ isB w lp
theorem EnvT.wr {w w' : World} {b lp : Nat} (h : EnvT w b lp) (hw : Wr b w w') : EnvT w' b lp :=
  ⟨hw.cellv h.el h.ne (.inr h.nb), h.ne, hw.notB (lt_of_cell h.el) h.ne h.nb⟩
/-- The parameter's box stays. -/
theorem boxW {b : Nat} {w W : World} {h : Hd} (hb : b < w.heap.size) (hk : Wr b (w.alloc (.cells #[.int .i64 h.k, .string h.nm, .int .i64 h.con, .slice h.fa h.fl h.fc, .slice h.la h.ll h.lc, .slice h.ra h.rl h.rc] 25)) W) :
    W.cell? ⟨w.heap.size, 0, none⟩ = some (.int .i64 h.k) ∧ W.cell? ⟨w.heap.size, 1, none⟩ = some (.string h.nm) ∧ W.cell? ⟨w.heap.size, 4, none⟩ = some (.slice h.la h.ll h.lc) ∧ W.cell? ⟨w.heap.size, 5, none⟩ = some (.slice h.ra h.rl h.rc) ∧ w.heap.size < W.heap.size := by
  have hsz := hk.sz
  simp at hsz
  have hn : ¬ isB (w.alloc (.cells #[.int .i64 h.k, .string h.nm, .int .i64 h.con, .slice h.fa h.fl h.fc, .slice h.la h.ll h.lc, .slice h.ra h.rl h.rc] 25)) w.heap.size := notB_of (heap_alloc_new _ _) (by decide)
  refine ⟨?_, ?_, ?_, ?_, by omega⟩ <;> exact hk.cellv (by rw [cell_of_row _ w.heap.size _ _ 25 (0, 0) (heap_alloc_new _ _)]; rfl) (by simp; omega) (.inr hn)

theorem toL (l : List UInt8) : (⟨l.toArray⟩ : ByteArray).data.toList = l := by simp
theorem told_name {r : Nat} {T : Ty} (h : T.k = 8 ∨ T.k = 12) : told (r + 1) T = T.nm.data.toList := by rw [told, if_pos h]
theorem told_word {r : Nat} {T : Ty} (h : 1 ≤ T.k ∧ T.k ≤ 7) : told (r + 1) T = wordL T.k := by rw [told, if_neg (by omega), if_neg (by omega), if_neg (by omega), if_neg (by omega)]
theorem told_9 {r : Nat} {T X : Ty} (h : T.k = 9) (hX : T.kids[0]? = some X) : told (r + 1) T = [91, 93] ++ told r X := by rw [told, if_neg (by omega), if_pos h, hX]
theorem told_10 {r : Nat} {T X : Ty} (h : T.k = 10) (hX : T.kids[0]? = some X) : told (r + 1) T = [99, 104, 97, 110, 32] ++ told r X := by rw [told, if_neg (by omega), if_neg (by omega), if_pos h, hX]
theorem told_11 {r : Nat} {T : Ty} (h : T.k = 11) : told (r + 1) T = [102, 117, 110, 99, 40] ++ listL (told r) T.kids T.nl ++ [41] ++ resL (told r) (T.kids.drop T.nl) (T.kids.length - T.nl) := by rw [told, if_neg (by omega), if_neg (by omega), if_neg (by omega), if_pos h]

theorem wr_8 (b lp : Nat) (l : List UInt8) (h : Hd) (w : World) (hE : EnvT w b lp) (hB : Bd w b l) (hk : h.k = 8) (hn : l.length + h.nm.size ≤ 140737488355328) :
    Calls Try.prog 39 #[h.val, .pointer (some ⟨b, 0, none⟩), .pointer (some ⟨lp, 0, none⟩)] w fun e w' => e = .returned (.tuple #[]) ∧ Bd w' b (l ++ h.nm.data.toList) ∧ Wr b w w' := by
  have HB := Lib.hid hB
  have hbw := hB.lt
  have HE := Lib.hid hE
  clear hB hE
  obtain ⟨k, nm, con, fa, fl, fc, la, ll, lc, ra, rl, rc⟩ := h
  simp only at hk hn
  subst hk
  go_enter Try.func39, Try.ntmps39
  go_wp2_with (first | (go_at_call 40; (with_reducible refine (c_Write b l nm _ (HB.out.keep ((Kp.refl w).alloc _)) hn).mono ?_); rintro e w2 ⟨rfl, hb2, hw2⟩; skip))
  go_end0
  exact ⟨rfl, hb2, (Kp.wr ((Kp.refl w).alloc _)).trans hw2⟩
theorem wr_12 (b lp : Nat) (l : List UInt8) (h : Hd) (w : World) (hE : EnvT w b lp) (hB : Bd w b l) (hk : h.k = 12) (hn : l.length + h.nm.size ≤ 140737488355328) :
    Calls Try.prog 39 #[h.val, .pointer (some ⟨b, 0, none⟩), .pointer (some ⟨lp, 0, none⟩)] w fun e w' => e = .returned (.tuple #[]) ∧ Bd w' b (l ++ h.nm.data.toList) ∧ Wr b w w' := by
  have HB := Lib.hid hB
  have hbw := hB.lt
  have HE := Lib.hid hE
  clear hB hE
  obtain ⟨k, nm, con, fa, fl, fc, la, ll, lc, ra, rl, rc⟩ := h
  simp only at hk hn
  subst hk
  go_enter Try.func39, Try.ntmps39
  go_wp2_with (first | (go_at_call 40; (with_reducible refine (c_Write b l nm _ (HB.out.keep ((Kp.refl w).alloc _)) hn).mono ?_); rintro e w2 ⟨rfl, hb2, hw2⟩; skip))
  go_end0
  exact ⟨rfl, hb2, (Kp.wr ((Kp.refl w).alloc _)).trans hw2⟩
theorem wr_1 (b lp : Nat) (l : List UInt8) (h : Hd) (w : World) (hE : EnvT w b lp) (hB : Bd w b l) (hk : h.k = 1) (hn : l.length + 70 ≤ 140737488355328) :
    Calls Try.prog 39 #[h.val, .pointer (some ⟨b, 0, none⟩), .pointer (some ⟨lp, 0, none⟩)] w fun e w' => e = .returned (.tuple #[]) ∧ Bd w' b (l ++ wordL h.k) ∧ Wr b w w' := by
  have HB := Lib.hid hB
  have hbw := hB.lt
  have HE := Lib.hid hE
  clear hB hE
  obtain ⟨k, nm, con, fa, fl, fc, la, ll, lc, ra, rl, rc⟩ := h
  simp only at hk hn
  subst hk
  have hs : (⟨(wordL 1).toArray⟩ : ByteArray).size ≤ 70 := by decide
  go_enter Try.func39, Try.ntmps39
  go_wp2_with (first | (go_at_call 41; (with_reducible refine (c_word _ _).mono ?_); rintro e w' ⟨rfl, rfl⟩) | (go_at_call 40; (with_reducible refine (c_Write b l _ _ (HB.out.keep ((Kp.refl w).alloc _)) (by omega)).mono ?_); rintro e w2 ⟨rfl, hb2, hw2⟩; skip))
  go_end0
  exact ⟨rfl, hb2, (Kp.wr ((Kp.refl w).alloc _)).trans hw2⟩
theorem wr_2 (b lp : Nat) (l : List UInt8) (h : Hd) (w : World) (hE : EnvT w b lp) (hB : Bd w b l) (hk : h.k = 2) (hn : l.length + 70 ≤ 140737488355328) :
    Calls Try.prog 39 #[h.val, .pointer (some ⟨b, 0, none⟩), .pointer (some ⟨lp, 0, none⟩)] w fun e w' => e = .returned (.tuple #[]) ∧ Bd w' b (l ++ wordL h.k) ∧ Wr b w w' := by
  have HB := Lib.hid hB
  have hbw := hB.lt
  have HE := Lib.hid hE
  clear hB hE
  obtain ⟨k, nm, con, fa, fl, fc, la, ll, lc, ra, rl, rc⟩ := h
  simp only at hk hn
  subst hk
  have hs : (⟨(wordL 2).toArray⟩ : ByteArray).size ≤ 70 := by decide
  go_enter Try.func39, Try.ntmps39
  go_wp2_with (first | (go_at_call 41; (with_reducible refine (c_word _ _).mono ?_); rintro e w' ⟨rfl, rfl⟩) | (go_at_call 40; (with_reducible refine (c_Write b l _ _ (HB.out.keep ((Kp.refl w).alloc _)) (by omega)).mono ?_); rintro e w2 ⟨rfl, hb2, hw2⟩; skip))
  go_end0
  exact ⟨rfl, hb2, (Kp.wr ((Kp.refl w).alloc _)).trans hw2⟩
theorem wr_3 (b lp : Nat) (l : List UInt8) (h : Hd) (w : World) (hE : EnvT w b lp) (hB : Bd w b l) (hk : h.k = 3) (hn : l.length + 70 ≤ 140737488355328) :
    Calls Try.prog 39 #[h.val, .pointer (some ⟨b, 0, none⟩), .pointer (some ⟨lp, 0, none⟩)] w fun e w' => e = .returned (.tuple #[]) ∧ Bd w' b (l ++ wordL h.k) ∧ Wr b w w' := by
  have HB := Lib.hid hB
  have hbw := hB.lt
  have HE := Lib.hid hE
  clear hB hE
  obtain ⟨k, nm, con, fa, fl, fc, la, ll, lc, ra, rl, rc⟩ := h
  simp only at hk hn
  subst hk
  have hs : (⟨(wordL 3).toArray⟩ : ByteArray).size ≤ 70 := by decide
  go_enter Try.func39, Try.ntmps39
  go_wp2_with (first | (go_at_call 41; (with_reducible refine (c_word _ _).mono ?_); rintro e w' ⟨rfl, rfl⟩) | (go_at_call 40; (with_reducible refine (c_Write b l _ _ (HB.out.keep ((Kp.refl w).alloc _)) (by omega)).mono ?_); rintro e w2 ⟨rfl, hb2, hw2⟩; skip))
  go_end0
  exact ⟨rfl, hb2, (Kp.wr ((Kp.refl w).alloc _)).trans hw2⟩
theorem wr_4 (b lp : Nat) (l : List UInt8) (h : Hd) (w : World) (hE : EnvT w b lp) (hB : Bd w b l) (hk : h.k = 4) (hn : l.length + 70 ≤ 140737488355328) :
    Calls Try.prog 39 #[h.val, .pointer (some ⟨b, 0, none⟩), .pointer (some ⟨lp, 0, none⟩)] w fun e w' => e = .returned (.tuple #[]) ∧ Bd w' b (l ++ wordL h.k) ∧ Wr b w w' := by
  have HB := Lib.hid hB
  have hbw := hB.lt
  have HE := Lib.hid hE
  clear hB hE
  obtain ⟨k, nm, con, fa, fl, fc, la, ll, lc, ra, rl, rc⟩ := h
  simp only at hk hn
  subst hk
  have hs : (⟨(wordL 4).toArray⟩ : ByteArray).size ≤ 70 := by decide
  go_enter Try.func39, Try.ntmps39
  go_wp2_with (first | (go_at_call 41; (with_reducible refine (c_word _ _).mono ?_); rintro e w' ⟨rfl, rfl⟩) | (go_at_call 40; (with_reducible refine (c_Write b l _ _ (HB.out.keep ((Kp.refl w).alloc _)) (by omega)).mono ?_); rintro e w2 ⟨rfl, hb2, hw2⟩; skip))
  go_end0
  exact ⟨rfl, hb2, (Kp.wr ((Kp.refl w).alloc _)).trans hw2⟩
theorem wr_5 (b lp : Nat) (l : List UInt8) (h : Hd) (w : World) (hE : EnvT w b lp) (hB : Bd w b l) (hk : h.k = 5) (hn : l.length + 70 ≤ 140737488355328) :
    Calls Try.prog 39 #[h.val, .pointer (some ⟨b, 0, none⟩), .pointer (some ⟨lp, 0, none⟩)] w fun e w' => e = .returned (.tuple #[]) ∧ Bd w' b (l ++ wordL h.k) ∧ Wr b w w' := by
  have HB := Lib.hid hB
  have hbw := hB.lt
  have HE := Lib.hid hE
  clear hB hE
  obtain ⟨k, nm, con, fa, fl, fc, la, ll, lc, ra, rl, rc⟩ := h
  simp only at hk hn
  subst hk
  have hs : (⟨(wordL 5).toArray⟩ : ByteArray).size ≤ 70 := by decide
  go_enter Try.func39, Try.ntmps39
  go_wp2_with (first | (go_at_call 41; (with_reducible refine (c_word _ _).mono ?_); rintro e w' ⟨rfl, rfl⟩) | (go_at_call 40; (with_reducible refine (c_Write b l _ _ (HB.out.keep ((Kp.refl w).alloc _)) (by omega)).mono ?_); rintro e w2 ⟨rfl, hb2, hw2⟩; skip))
  go_end0
  exact ⟨rfl, hb2, (Kp.wr ((Kp.refl w).alloc _)).trans hw2⟩
theorem wr_6 (b lp : Nat) (l : List UInt8) (h : Hd) (w : World) (hE : EnvT w b lp) (hB : Bd w b l) (hk : h.k = 6) (hn : l.length + 70 ≤ 140737488355328) :
    Calls Try.prog 39 #[h.val, .pointer (some ⟨b, 0, none⟩), .pointer (some ⟨lp, 0, none⟩)] w fun e w' => e = .returned (.tuple #[]) ∧ Bd w' b (l ++ wordL h.k) ∧ Wr b w w' := by
  have HB := Lib.hid hB
  have hbw := hB.lt
  have HE := Lib.hid hE
  clear hB hE
  obtain ⟨k, nm, con, fa, fl, fc, la, ll, lc, ra, rl, rc⟩ := h
  simp only at hk hn
  subst hk
  have hs : (⟨(wordL 6).toArray⟩ : ByteArray).size ≤ 70 := by decide
  go_enter Try.func39, Try.ntmps39
  go_wp2_with (first | (go_at_call 41; (with_reducible refine (c_word _ _).mono ?_); rintro e w' ⟨rfl, rfl⟩) | (go_at_call 40; (with_reducible refine (c_Write b l _ _ (HB.out.keep ((Kp.refl w).alloc _)) (by omega)).mono ?_); rintro e w2 ⟨rfl, hb2, hw2⟩; skip))
  go_end0
  exact ⟨rfl, hb2, (Kp.wr ((Kp.refl w).alloc _)).trans hw2⟩
theorem wr_7 (b lp : Nat) (l : List UInt8) (h : Hd) (w : World) (hE : EnvT w b lp) (hB : Bd w b l) (hk : h.k = 7) (hn : l.length + 70 ≤ 140737488355328) :
    Calls Try.prog 39 #[h.val, .pointer (some ⟨b, 0, none⟩), .pointer (some ⟨lp, 0, none⟩)] w fun e w' => e = .returned (.tuple #[]) ∧ Bd w' b (l ++ wordL h.k) ∧ Wr b w w' := by
  have HB := Lib.hid hB
  have hbw := hB.lt
  have HE := Lib.hid hE
  clear hB hE
  obtain ⟨k, nm, con, fa, fl, fc, la, ll, lc, ra, rl, rc⟩ := h
  simp only at hk hn
  subst hk
  have hs : (⟨(wordL 7).toArray⟩ : ByteArray).size ≤ 70 := by decide
  go_enter Try.func39, Try.ntmps39
  go_wp2_with (first | (go_at_call 41; (with_reducible refine (c_word _ _).mono ?_); rintro e w' ⟨rfl, rfl⟩) | (go_at_call 40; (with_reducible refine (c_Write b l _ _ (HB.out.keep ((Kp.refl w).alloc _)) (by omega)).mono ?_); rintro e w2 ⟨rfl, hb2, hw2⟩; skip))
  go_end0
  exact ⟨rfl, hb2, (Kp.wr ((Kp.refl w).alloc _)).trans hw2⟩
set_option maxHeartbeats 1600000 in
theorem wr_9 (r R b lp : Nat) (l : List UInt8) (T X : Ty) (h : Hd) (K : Nat → Hd) (w : World) (hE : EnvT w b lp) (hB : Bd w b l) (t : Top w (Low b) T h K) (hli : Lies w (Low b) R X (K 0)) (hs : (look r X).2.2 = true) (hk : h.k = 9) (hf : h.fl = 0 ∧ h.ll = 1 ∧ h.rl = 0) (hn : l.length + (LB r + 70) ≤ 140737488355328)
    (ih : ∀ (l : List UInt8) (W : World), EnvT W b lp → Bd W b l → Lies W (Low b) R X (K 0) → l.length + LB r ≤ 140737488355328 → Calls Try.prog 39 #[(K 0).val, .pointer (some ⟨b, 0, none⟩), .pointer (some ⟨lp, 0, none⟩)] W fun e w' => e = .returned (.tuple #[]) ∧ Bd w' b (l ++ told r X) ∧ Wr b W w') :
    Calls Try.prog 39 #[h.val, .pointer (some ⟨b, 0, none⟩), .pointer (some ⟨lp, 0, none⟩)] w fun e w' => e = .returned (.tuple #[]) ∧ Bd w' b (l ++ ([91, 93] ++ told r X)) ∧ Wr b w w' := by
  have HB := Lib.hid hB
  have hbw := hB.lt
  have HE := Lib.hid hE
  clear hB hE
  obtain ⟨tb, to, ha, hr⟩ := t.tl.at (by omega)
  have hr0 := hr 0 (by omega)
  have hlow : tb < b := by
    obtain ⟨b', o', ha', hS, _⟩ := t.tl.2 (by omega)
    have e := ha.symm.trans ha'
    simp at e
    rw [e.1]; exact hS
  obtain ⟨k, nm, con, fa, fl, fc, la, ll, lc, ra, rl, rc⟩ := h
  obtain ⟨hf0, hf1, hf2⟩ := hf
  simp only at hk hn ha hr0 hf0 hf1 hf2
  subst hk
  subst ha
  subst hf0
  subst hf1
  subst hf2
  clear t hr
  have HR := Lib.hid hr0
  have HL := Lib.hid hli
  have IH := Lib.hid ih
  clear hr0 hli ih hs
  go_enter Try.func39, Try.ntmps39
  go_wp2_with (first | (go_at_call 40; (with_reducible refine (c_Write b l ⟨#[91, 93]⟩ _ (HB.out.keep ((Kp.refl w).alloc _)) (by have : (⟨#[91, 93]⟩ : ByteArray).size = 2 := rfl; omega)).mono ?_); rintro e w2 ⟨rfl, hb2, hw2⟩; have W2 := Lib.hid ((Kp.wr ((Kp.refl w).alloc _)).trans hw2); have HE2 := Lib.hid ((HE.out.wr W2.out).wr (Kp.wr (Kp.refl w2).drew)); have z0 := (HE.out.wr W2.out).el; have hne := HE.out.ne; have hnb : ¬ isB w2.drew lp := ((HE.out.wr W2.out).wr (Kp.wr (Kp.refl w2).drew)).nb; obtain ⟨_, _, z4, _, zz⟩ := boxW (h := ⟨9, nm, con, fa, 0, fc, some ⟨tb, to, none⟩, 1, lc, ra, 0, rc⟩) hbw hw2; simp only at z4; have HL2 := Lib.hid ((HL.out.wr W2.out).wr (Kp.wr (Kp.refl w2).drew)); have rr := W2.out; have gg : ∀ j v, (K 0).cells[j]? = some v → w2.cell? ⟨tb, to + j, none⟩ = some v := (fun j v hv => rr.cellv (by have := HR.out j v hv; simpa using this) (by show tb ≠ b; omega) (.inl hlow)); have g0 : w2.cell? ⟨tb, to, none⟩ = some (.int .i64 (K 0).k) := gg 0 _ rfl; have g1 : w2.cell? ⟨tb, to + 1, none⟩ = some (.string (K 0).nm) := gg 1 _ rfl; have g2 : w2.cell? ⟨tb, to + 2, none⟩ = some (.int .i64 (K 0).con) := gg 2 _ rfl; have g3 : w2.cell? ⟨tb, to + 3, none⟩ = some (.slice (K 0).fa (K 0).fl (K 0).fc) := gg 3 _ rfl; have g4 : w2.cell? ⟨tb, to + 4, none⟩ = some (.slice (K 0).la (K 0).ll (K 0).lc) := gg 4 _ rfl; have g5 : w2.cell? ⟨tb, to + 5, none⟩ = some (.slice (K 0).ra (K 0).rl (K 0).rc) := gg 5 _ rfl; have hgb : tb ≠ b := (by omega); have hn4 : w.heap.size ≠ b := (by omega); have hnb4 : ¬ isB w2.drew w.heap.size := (fun x => hw2.notB (k := w.heap.size) (by simp) hn4 (notB_of (heap_alloc_new _ _) (by decide)) x); clear gg rr; have ii : (0 : Int) < ((1 : Nat) : Int) := (by decide)))
  go_region_held3 (fun w' => w'.cell? ⟨lp, 0, none⟩ = some (.func (.func 39) #[] #[.pointer (some ⟨b, 0, none⟩), .pointer (some ⟨lp, 0, none⟩)]) ∧ w'.cell? ⟨w.heap.size, 4, none⟩ = some (.slice (some ⟨tb, to, none⟩) 1 lc) ∧ w'.cell? ⟨tb, to, none⟩ = some (.int .i64 (K 0).k) ∧ w'.cell? ⟨tb, to + 1, none⟩ = some (.string (K 0).nm) ∧ w'.cell? ⟨tb, to + 2, none⟩ = some (.int .i64 (K 0).con) ∧ w'.cell? ⟨tb, to + 3, none⟩ = some (.slice (K 0).fa (K 0).fl (K 0).fc) ∧ w'.cell? ⟨tb, to + 4, none⟩ = some (.slice (K 0).la (K 0).ll (K 0).lc) ∧ w'.cell? ⟨tb, to + 5, none⟩ = some (.slice (K 0).ra (K 0).rl (K 0).rc))
    (first | exact ⟨z0, z4, g0, g1, g2, g3, g4, g5⟩ | exact ⟨hw3.cellv z0 hne (.inr hnb), hw3.cellv z4 hn4 (.inr hnb4), hw3.cellv g0 hgb (.inl hlow), hw3.cellv g1 hgb (.inl hlow), hw3.cellv g2 hgb (.inl hlow), hw3.cellv g3 hgb (.inl hlow), hw3.cellv g4 hgb (.inl hlow), hw3.cellv g5 hgb (.inl hlow)⟩)
    ((first | (go_at_call 39; refine (IH.out _ _ HE2.out (hb2.keep (Kp.refl _).drew) HL2.out (by simp; omega)).mono ?_; rintro e w3 ⟨rfl, hb3, hw3⟩)))
  go_wp2_with fail
  go_end0
  exact ⟨rfl, by have := hb3; simpa using this, ((Kp.wr ((Kp.refl w).alloc _)).trans hw2).trans ((Kp.wr (Kp.refl w2).drew).trans hw3)⟩
set_option maxHeartbeats 1600000 in
theorem wr_10 (r R b lp : Nat) (l : List UInt8) (T X : Ty) (h : Hd) (K : Nat → Hd) (w : World) (hE : EnvT w b lp) (hB : Bd w b l) (t : Top w (Low b) T h K) (hli : Lies w (Low b) R X (K 0)) (hs : (look r X).2.2 = true) (hk : h.k = 10) (hf : h.fl = 0 ∧ h.ll = 1 ∧ h.rl = 0) (hn : l.length + (LB r + 70) ≤ 140737488355328)
    (ih : ∀ (l : List UInt8) (W : World), EnvT W b lp → Bd W b l → Lies W (Low b) R X (K 0) → l.length + LB r ≤ 140737488355328 → Calls Try.prog 39 #[(K 0).val, .pointer (some ⟨b, 0, none⟩), .pointer (some ⟨lp, 0, none⟩)] W fun e w' => e = .returned (.tuple #[]) ∧ Bd w' b (l ++ told r X) ∧ Wr b W w') :
    Calls Try.prog 39 #[h.val, .pointer (some ⟨b, 0, none⟩), .pointer (some ⟨lp, 0, none⟩)] w fun e w' => e = .returned (.tuple #[]) ∧ Bd w' b (l ++ ([99, 104, 97, 110, 32] ++ told r X)) ∧ Wr b w w' := by
  have HB := Lib.hid hB
  have hbw := hB.lt
  have HE := Lib.hid hE
  clear hB hE
  obtain ⟨tb, to, ha, hr⟩ := t.tl.at (by omega)
  have hr0 := hr 0 (by omega)
  have hlow : tb < b := by
    obtain ⟨b', o', ha', hS, _⟩ := t.tl.2 (by omega)
    have e := ha.symm.trans ha'
    simp at e
    rw [e.1]; exact hS
  obtain ⟨k, nm, con, fa, fl, fc, la, ll, lc, ra, rl, rc⟩ := h
  obtain ⟨hf0, hf1, hf2⟩ := hf
  simp only at hk hn ha hr0 hf0 hf1 hf2
  subst hk
  subst ha
  subst hf0
  subst hf1
  subst hf2
  clear t hr
  have HR := Lib.hid hr0
  have HL := Lib.hid hli
  have IH := Lib.hid ih
  clear hr0 hli ih hs
  go_enter Try.func39, Try.ntmps39
  go_wp2_with (first | (go_at_call 40; (with_reducible refine (c_Write b l ⟨#[99, 104, 97, 110, 32]⟩ _ (HB.out.keep ((Kp.refl w).alloc _)) (by have : (⟨#[99, 104, 97, 110, 32]⟩ : ByteArray).size = 5 := rfl; omega)).mono ?_); rintro e w2 ⟨rfl, hb2, hw2⟩; have W2 := Lib.hid ((Kp.wr ((Kp.refl w).alloc _)).trans hw2); have HE2 := Lib.hid ((HE.out.wr W2.out).wr (Kp.wr (Kp.refl w2).drew)); have z0 := (HE.out.wr W2.out).el; have hne := HE.out.ne; have hnb : ¬ isB w2.drew lp := ((HE.out.wr W2.out).wr (Kp.wr (Kp.refl w2).drew)).nb; obtain ⟨_, _, z4, _, zz⟩ := boxW (h := ⟨10, nm, con, fa, 0, fc, some ⟨tb, to, none⟩, 1, lc, ra, 0, rc⟩) hbw hw2; simp only at z4; have HL2 := Lib.hid ((HL.out.wr W2.out).wr (Kp.wr (Kp.refl w2).drew)); have rr := W2.out; have gg : ∀ j v, (K 0).cells[j]? = some v → w2.cell? ⟨tb, to + j, none⟩ = some v := (fun j v hv => rr.cellv (by have := HR.out j v hv; simpa using this) (by show tb ≠ b; omega) (.inl hlow)); have g0 : w2.cell? ⟨tb, to, none⟩ = some (.int .i64 (K 0).k) := gg 0 _ rfl; have g1 : w2.cell? ⟨tb, to + 1, none⟩ = some (.string (K 0).nm) := gg 1 _ rfl; have g2 : w2.cell? ⟨tb, to + 2, none⟩ = some (.int .i64 (K 0).con) := gg 2 _ rfl; have g3 : w2.cell? ⟨tb, to + 3, none⟩ = some (.slice (K 0).fa (K 0).fl (K 0).fc) := gg 3 _ rfl; have g4 : w2.cell? ⟨tb, to + 4, none⟩ = some (.slice (K 0).la (K 0).ll (K 0).lc) := gg 4 _ rfl; have g5 : w2.cell? ⟨tb, to + 5, none⟩ = some (.slice (K 0).ra (K 0).rl (K 0).rc) := gg 5 _ rfl; have hgb : tb ≠ b := (by omega); have hn4 : w.heap.size ≠ b := (by omega); have hnb4 : ¬ isB w2.drew w.heap.size := (fun x => hw2.notB (k := w.heap.size) (by simp) hn4 (notB_of (heap_alloc_new _ _) (by decide)) x); clear gg rr; have ii : (0 : Int) < ((1 : Nat) : Int) := (by decide)))
  go_region_held3 (fun w' => w'.cell? ⟨lp, 0, none⟩ = some (.func (.func 39) #[] #[.pointer (some ⟨b, 0, none⟩), .pointer (some ⟨lp, 0, none⟩)]) ∧ w'.cell? ⟨w.heap.size, 4, none⟩ = some (.slice (some ⟨tb, to, none⟩) 1 lc) ∧ w'.cell? ⟨tb, to, none⟩ = some (.int .i64 (K 0).k) ∧ w'.cell? ⟨tb, to + 1, none⟩ = some (.string (K 0).nm) ∧ w'.cell? ⟨tb, to + 2, none⟩ = some (.int .i64 (K 0).con) ∧ w'.cell? ⟨tb, to + 3, none⟩ = some (.slice (K 0).fa (K 0).fl (K 0).fc) ∧ w'.cell? ⟨tb, to + 4, none⟩ = some (.slice (K 0).la (K 0).ll (K 0).lc) ∧ w'.cell? ⟨tb, to + 5, none⟩ = some (.slice (K 0).ra (K 0).rl (K 0).rc))
    (first | exact ⟨z0, z4, g0, g1, g2, g3, g4, g5⟩ | exact ⟨hw3.cellv z0 hne (.inr hnb), hw3.cellv z4 hn4 (.inr hnb4), hw3.cellv g0 hgb (.inl hlow), hw3.cellv g1 hgb (.inl hlow), hw3.cellv g2 hgb (.inl hlow), hw3.cellv g3 hgb (.inl hlow), hw3.cellv g4 hgb (.inl hlow), hw3.cellv g5 hgb (.inl hlow)⟩)
    ((first | (go_at_call 39; refine (IH.out _ _ HE2.out (hb2.keep (Kp.refl _).drew) HL2.out (by simp; omega)).mono ?_; rintro e w3 ⟨rfl, hb3, hw3⟩)))
  go_wp2_with fail
  go_end0
  exact ⟨rfl, by have := hb3; simpa using this, ((Kp.wr ((Kp.refl w).alloc _)).trans hw2).trans ((Kp.wr (Kp.refl w2).drew).trans hw3)⟩
theorem box6W {b : Nat} {w W : World} {h : Hd} (hb : b < w.heap.size) (hk : Wr b (w.alloc (.cells #[.int .i64 h.k, .string h.nm, .int .i64 h.con, .slice h.fa h.fl h.fc, .slice h.la h.ll h.lc, .slice h.ra h.rl h.rc] 25)) W) :
    W.cell? ⟨w.heap.size, 0, none⟩ = some (.int .i64 h.k) ∧ W.cell? ⟨w.heap.size, 1, none⟩ = some (.string h.nm) ∧ W.cell? ⟨w.heap.size, 2, none⟩ = some (.int .i64 h.con) ∧ W.cell? ⟨w.heap.size, 3, none⟩ = some (.slice h.fa h.fl h.fc) ∧ W.cell? ⟨w.heap.size, 4, none⟩ = some (.slice h.la h.ll h.lc) ∧ W.cell? ⟨w.heap.size, 5, none⟩ = some (.slice h.ra h.rl h.rc) ∧ w.heap.size < W.heap.size := by
  have hsz := hk.sz
  simp at hsz
  have hn : ¬ isB (w.alloc (.cells #[.int .i64 h.k, .string h.nm, .int .i64 h.con, .slice h.fa h.fl h.fc, .slice h.la h.ll h.lc, .slice h.ra h.rl h.rc] 25)) w.heap.size := notB_of (heap_alloc_new _ _) (by decide)
  refine ⟨?_, ?_, ?_, ?_, ?_, ?_, by omega⟩ <;> exact hk.cellv (by rw [cell_of_row _ w.heap.size _ _ 25 (0, 0) (heap_alloc_new _ _)]; rfl) (by simp; omega) (.inr hn)
theorem tab.wr {b : Nat} {w w' : World} {e : TypeId} {a : Option Addr} {n c m : Nat} {C : Nat → List Value} (h : tab w (Low b) e a n c m C) (hw : Wr b w w') : tab w' (Low b) e a n c m C := h.turn hw.fr hw.sz (fun k _ (hS : k < b) hn => hn hS)
theorem listL_next {f : Ty → List UInt8} {l : List Ty} {n : Nat} {X : Ty} (hX : l[n]? = some X) : listL f l (n + 1) = listL f l n ++ (if 0 < n then [44, 32] else []) ++ f X := by rw [listL, hX]
theorem resL_next {f : Ty → List UInt8} {l : List Ty} {n : Nat} {X : Ty} (hX : l[n]? = some X) : resL f l (n + 1) = resL f l n ++ [32] ++ f X := by rw [resL, hX]
set_option maxHeartbeats 3200000 in
set_option maxRecDepth 100000 in
theorem wr_11 (r R b lp : Nat) (l : List UInt8) (T : Ty) (h : Hd) (K : Nat → Hd) (w : World) (hE : EnvT w b lp) (hB : Bd w b l) (t : Top w (Low b) T h K) (hh : ∀ i X, T.kids[i]? = some X → Lies w (Low b) R X (K i)) (hs : ∀ (i : Nat) (X : Ty), T.kids[i]? = some X → (look r X).2.2 = true) (hk : h.k = 11) (hf : h.fl = 0 ∧ h.ll ≤ 16 ∧ h.rl ≤ 1) (hn : l.length + LB (r + 1) ≤ 140737488355328)
    (ih : ∀ (X : Ty) (hx : Hd) (l : List UInt8) (W : World), EnvT W b lp → Bd W b l → Lies W (Low b) R X hx → (look r X).2.2 = true → l.length + LB r ≤ 140737488355328 → Calls Try.prog 39 #[hx.val, .pointer (some ⟨b, 0, none⟩), .pointer (some ⟨lp, 0, none⟩)] W fun e w' => e = .returned (.tuple #[]) ∧ Bd w' b (l ++ told r X) ∧ Wr b W w') :
    Calls Try.prog 39 #[h.val, .pointer (some ⟨b, 0, none⟩), .pointer (some ⟨lp, 0, none⟩)] w fun e w' => e = .returned (.tuple #[]) ∧ Bd w' b (l ++ ([102, 117, 110, 99, 40] ++ listL (told r) T.kids T.nl ++ [41] ++ resL (told r) (T.kids.drop T.nl) (T.kids.length - T.nl))) ∧ Wr b w w' := by
  have HB := Lib.hid hB
  have hbw := hB.lt
  have HE := Lib.hid hE
  clear hB hE
  have hT := Lib.hid t
  have hH := Lib.hid hh
  have hS := Lib.hid hs
  have IH := Lib.hid ih
  have hes := t.es
  have hel := t.el
  have hb1 : ∀ n, n ≤ h.ll → (listL (told r) T.kids n).length ≤ n * (LB r + 2) := fun n _ => listL_len (fun X hX => by
    obtain ⟨i, hi, e⟩ := List.getElem_of_mem hX
    exact told_len (hs i X (by rw [List.getElem?_eq_getElem hi, e]))) n
  have hb2' : ∀ n, (resL (told r) (T.kids.drop T.nl) n).length ≤ n * (LB r + 2) := fun n => resL_len (fun X hX => by
    obtain ⟨i, hi, e⟩ := List.getElem_of_mem (List.mem_of_mem_drop hX)
    exact told_len (hs i X (by rw [List.getElem?_eq_getElem hi, e]))) n
  have HB1 := Lib.hid hb1
  have HB2 := Lib.hid hb2'
  have hlb : LB (r + 1) = 17 * (LB r + 2) + 70 := rfl
  rw [hlb] at hn
  generalize hq : LB r + 2 = q at hn HB1 HB2
  have HQ := Lib.hid hq
  clear t hh hs ih hb1 hb2' hlb hq
  obtain ⟨k, nm, con, fa, fl, fc, la, ll, lc, ra, rl, rc⟩ := h
  obtain ⟨hf0, hf1, hf2⟩ := hf
  simp only at hk hes hel hf0 hf1 hf2
  subst hk
  subst hf0
  have HES := Lib.hid hes
  have HEL := Lib.hid hel
  clear hes hel
  go_enter Try.func39, Try.ntmps39
  go_wp2_with (first | (go_at_call 40; (with_reducible refine (c_Write b l ⟨#[102, 117, 110, 99, 40]⟩ _ (HB.out.keep ((Kp.refl w).alloc _)) (by have : (⟨#[102, 117, 110, 99, 40]⟩ : ByteArray).size = 5 := rfl; omega)).mono ?_); rintro e w2 ⟨rfl, hb2, hw2⟩; have W0 := Lib.hid hw2; obtain ⟨_, _, _, _, s4, s5, sz⟩ := box6W (h := ⟨11, nm, con, fa, 0, fc, la, ll, lc, ra, rl, rc⟩) hbw hw2; simp only at s4 s5; clear hw2))
  have HBD := Lib.hid hb2
  clear hb2
  go_loopw [44] (fun i wr => ∃ n : Nat, n ≤ ll ∧ i = .int .i64 n ∧ Bd wr b (l ++ [102, 117, 110, 99, 40] ++ listL (told r) T.kids n) ∧ Wr b (w.alloc (.cells #[.int .i64 11, .string nm, .int .i64 con, .slice fa 0 fc, .slice la ll lc, .slice ra rl rc] 25)) wr) (fun i _ => ll - (intOf i).toNat)
  case atStart => exact ⟨0, by omega, rfl, by simpa [listL] using HBD.out, W0.out⟩
  case round =>
    obtain ⟨n, hnl, rfl, hbd, hwr⟩ := hrel
    have HD := Lib.hid hbd
    have HW := Lib.hid hwr
    have WW := Lib.hid ((Kp.wr ((Kp.refl w).alloc _)).trans hwr)
    obtain ⟨_, _, _, _, q4, q5, qz⟩ := box6W (h := ⟨11, nm, con, fa, 0, fc, la, ll, lc, ra, rl, rc⟩) hbw hwr
    simp only at q4 q5
    clear s4 s5 sz
    have hl1 := HB1.out n hnl
    have hbw2 : b < wr.heap.size := by omega
    have hle : (l ++ [102, 117, 110, 99, 40] ++ listL (told r) T.kids n).length ≤ l.length + 5 + n * q := by simp only [List.length_append, List.length_cons, List.length_nil]; omega
    clear hbd hwr
    by_cases hlt : n < ll
    · have hq17 : (n + 1) * q ≤ 16 * q := Nat.mul_le_mul_right _ (by omega)
      rw [Nat.add_mul] at hq17
      have htab := hT.out.tl.wr WW.out
      obtain ⟨tb, to, ha, hr⟩ := htab.at (by show 0 < ll; omega)
      have HA := Lib.hid ha
      have HR := Lib.hid (hr n hlt)
      clear ha hr htab
      simp only [Nat.zero_add] at HR
      obtain ⟨X, hX⟩ : ∃ X, T.kids[n]? = some X := ⟨_, List.getElem?_eq_getElem (by have := HES.out; omega)⟩
      have HX := Lib.hid hX
      clear hX
      have HLX := Lib.hid ((hH.out n X HX.out).wr WW.out)
      have HEW := Lib.hid (HE.out.wr WW.out)
      have e0 := HEW.out.el
      have e1 : lp < wr.heap.size := lt_of_cell e0
      have KA := Lib.hid (Kp.wr (b := b) ((Kp.refl wr).alloc (.cells #[.int .i64 (K n).k, .string (K n).nm, .int .i64 (K n).con, .slice (K n).fa (K n).fl (K n).fc, .slice (K n).la (K n).ll (K n).lc, .slice (K n).ra (K n).rl (K n).rc] 25)))
      by_cases hn0 : 0 < n
      · have hnx := Lib.hid (show listL (told r) T.kids (n + 1) = listL (told r) T.kids n ++ [44, 32] ++ told r X by rw [listL_next HX.out, if_pos hn0])
        go_wp2_with (first | ((with_reducible show wpList _ _ _ (⟨some 47, _, _, _, _, _⟩ :: _) _ _); refine wpList_index_tab (d := 47) _ _ _ rfl 25 Try.underlying23 6 rfl _ _ _ _ to (by rfl) HA.out n (by rfl) hlt ?_) | ((with_reducible show wpList _ _ _ (⟨some 48, _, _, _, _, _⟩ :: _) _ _); refine wpList_load_ty (d := 48) _ _ rfl _ Try.underlying25 wr _ _ tb (to + n * 6) (by rfl) rfl (by first | rfl | omega) (K n) HR.out (Kp.refl _) rfl ?_) | (go_at_call 40; (with_reducible refine (c_Write b (l ++ [102, 117, 110, 99, 40] ++ listL (told r) T.kids n) ⟨#[44, 32]⟩ _ (HD.out.keep ((Kp.refl wr).alloc _)) (by have : (⟨#[44, 32]⟩ : ByteArray).size = 2 := rfl; omega)).mono ?_); rintro e w2 ⟨rfl, hb2, hw2⟩; have HEW2 := Lib.hid ((HEW.out.wr KA.out).wr hw2); have e2 := HEW2.out.el; obtain ⟨x0, x1, x2, x3, x4, x5, xz⟩ := box6W (h := K n) hbw2 hw2; have HLX2 := Lib.hid ((HLX.out.wr KA.out).wr hw2)) | (go_at_call 39; refine (IH.out X (K n) _ _ HEW2.out hb2 HLX2.out (hS.out n X HX.out) (by have := HQ.out; simp only [List.length_append, List.length_cons, List.length_nil, toL]; omega)).mono ?_; rintro e w3 ⟨rfl, hb3, hw3⟩))
        go_roundw
        case rel => exact ⟨n + 1, by omega, by go_num, by have e := hb3; rw [hnx.out]; simpa using e, HW.out.trans ((KA.out.trans hw2).trans hw3)⟩
        case measure => simp [intOf]; omega
      · obtain rfl : n = 0 := by omega
        have hnx := Lib.hid (show listL (told r) T.kids (0 + 1) = listL (told r) T.kids 0 ++ told r X by rw [listL_next HX.out, if_neg (by omega), List.append_nil])
        go_wp2_with (first | ((with_reducible show wpList _ _ _ (⟨some 47, _, _, _, _, _⟩ :: _) _ _); refine wpList_index_tab (d := 47) _ _ _ rfl 25 Try.underlying23 6 rfl _ _ _ _ to (by rfl) HA.out 0 (by rfl) hlt ?_) | ((with_reducible show wpList _ _ _ (⟨some 48, _, _, _, _, _⟩ :: _) _ _); refine wpList_load_ty (d := 48) _ _ rfl _ Try.underlying25 wr _ _ tb (to + 0 * 6) (by rfl) rfl (by first | rfl | omega) (K 0) HR.out (Kp.refl _) rfl ?_) | (go_at_call 39; refine (IH.out X (K 0) _ _ (HEW.out.wr KA.out) (HD.out.keep ((Kp.refl wr).alloc _)) (HLX.out.wr KA.out) (hS.out 0 X HX.out) (by have := HQ.out; omega)).mono ?_; rintro e w3 ⟨rfl, hb3, hw3⟩))
        go_roundw
        case rel => exact ⟨0 + 1, by omega, by go_num, by have e := hb3; rw [hnx.out]; simpa using e, HW.out.trans (KA.out.trans hw3)⟩
        case measure => simp [intOf]; omega
    · obtain rfl : ll = n := by omega
      have hq17 : (ll + 1) * q ≤ 17 * q := Nat.mul_le_mul_right _ (by omega)
      rw [Nat.add_mul] at hq17
      go_wp2_with (first | (go_at_call 40; (with_reducible refine (c_Write b (l ++ [102, 117, 110, 99, 40] ++ listL (told r) T.kids ll) ⟨#[41]⟩ _ HD.out (by have : (⟨#[41]⟩ : ByteArray).size = 1 := rfl; omega)).mono ?_); rintro e w4 ⟨rfl, hb2, hw2⟩; have W2 := Lib.hid (HW.out.trans hw2); obtain ⟨_, _, _, _, u4, u5, uz⟩ := box6W (h := ⟨11, nm, con, fa, 0, fc, la, ll, lc, ra, rl, rc⟩) hbw (HW.out.trans hw2); simp only at u4 u5))
      have HBD2 := Lib.hid hb2
      clear hb2 HBD
      obtain ⟨wo, rfl⟩ : ∃ wo : World, wo = wr := ⟨_, rfl⟩
      go_loopw [60] (fun i wx => ∃ n : Nat, n ≤ rl ∧ i = .int .i64 n ∧ Bd wx b (l ++ [102, 117, 110, 99, 40] ++ listL (told r) T.kids ll ++ [41] ++ resL (told r) (T.kids.drop T.nl) n) ∧ Wr b (w.alloc (.cells #[.int .i64 11, .string nm, .int .i64 con, .slice fa 0 fc, .slice la ll lc, .slice ra rl rc] 25)) wx) (fun i _ => rl - (intOf i).toNat)
      case atStart => exact ⟨0, by omega, rfl, by simpa [resL] using HBD2.out, W2.out⟩
      case round =>
        obtain ⟨m, hml, rfl, hbd, hwr⟩ := hrel
        have HD2 := Lib.hid hbd
        have HW2 := Lib.hid hwr
        have WX := Lib.hid ((Kp.wr ((Kp.refl w).alloc _)).trans hwr)
        obtain ⟨_, _, _, _, y4, y5, yz⟩ := box6W (h := ⟨11, nm, con, fa, 0, fc, la, ll, lc, ra, rl, rc⟩) hbw hwr
        simp only at y4 y5
        have hbw3 : b < wr.heap.size := by omega
        clear hbd hwr
        by_cases hlt2 : m < rl
        · obtain rfl : m = 0 := by omega
          have htab := hT.out.tr.wr WX.out
          obtain ⟨tb, to, ha, hr⟩ := htab.at (by show 0 < rl; omega)
          have HA := Lib.hid ha
          have HR := Lib.hid (hr 0 hlt2)
          clear ha hr htab
          simp only [Nat.zero_add, Nat.add_zero] at HR
          obtain ⟨X, hX⟩ : ∃ X, T.kids[ll]? = some X := ⟨_, List.getElem?_eq_getElem (by have := HES.out; omega)⟩
          have HX := Lib.hid hX
          clear hX
          have HLX := Lib.hid ((hH.out ll X HX.out).wr WX.out)
          have HEW := Lib.hid (HE.out.wr WX.out)
          have e0 := HEW.out.el
          have e1 : lp < wr.heap.size := lt_of_cell e0
          have KA := Lib.hid (Kp.wr (b := b) ((Kp.refl wr).alloc (.cells #[.int .i64 (K ll).k, .string (K ll).nm, .int .i64 (K ll).con, .slice (K ll).fa (K ll).fl (K ll).fc, .slice (K ll).la (K ll).ll (K ll).lc, .slice (K ll).ra (K ll).rl (K ll).rc] 25)))
          have hnx := Lib.hid (show resL (told r) (T.kids.drop T.nl) (0 + 1) = resL (told r) (T.kids.drop T.nl) 0 ++ [32] ++ told r X by rw [resL_next (by rw [HEL.out, List.getElem?_drop]; exact HX.out)])
          go_wp2_with (first | ((with_reducible show wpList _ _ _ (⟨some 62, _, _, _, _, _⟩ :: _) _ _); refine wpList_index_tab (d := 62) _ _ _ rfl 25 Try.underlying23 6 rfl _ _ _ _ to (by rfl) HA.out 0 (by rfl) hlt2 ?_) | ((with_reducible show wpList _ _ _ (⟨some 63, _, _, _, _, _⟩ :: _) _ _); refine wpList_load_ty (d := 63) _ _ rfl _ Try.underlying25 wr _ _ tb (to + 0 * 6) (by rfl) rfl (by first | rfl | omega) (K ll) HR.out (Kp.refl _) rfl ?_) | (go_at_call 40; (with_reducible refine (c_Write b (l ++ [102, 117, 110, 99, 40] ++ listL (told r) T.kids ll ++ [41] ++ resL (told r) (T.kids.drop T.nl) 0) ⟨#[32]⟩ _ (HD2.out.keep ((Kp.refl wr).alloc _)) (by have : (⟨#[32]⟩ : ByteArray).size = 1 := rfl; simp only [List.length_append, List.length_cons, List.length_nil, resL]; omega)).mono ?_); rintro e w5 ⟨rfl, hb5, hw5⟩; have HEW2 := Lib.hid ((HEW.out.wr KA.out).wr hw5); have e2 := HEW2.out.el; obtain ⟨x0, x1, x2, x3, x4, x5, xz⟩ := box6W (h := K ll) hbw3 hw5; have HLX2 := Lib.hid ((HLX.out.wr KA.out).wr hw5)) | (go_at_call 39; refine (IH.out X (K ll) _ _ HEW2.out hb5 HLX2.out (hS.out ll X HX.out) (by have := HQ.out; simp only [List.length_append, List.length_cons, List.length_nil, toL, resL]; omega)).mono ?_; rintro e w3 ⟨rfl, hb3, hw3⟩))
          go_roundw
          case rel => exact ⟨0 + 1, by omega, by go_num, by have e := hb3; rw [hnx.out]; simpa using e, HW2.out.trans ((KA.out.trans hw5).trans hw3)⟩
          case measure => simp [intOf]; omega
        · obtain rfl : rl = m := by omega
          go_wp2_with fail
          go_end0
          have e := HD2.out
          refine ⟨rfl, ?_, WX.out⟩
          rw [HEL.out, show T.kids.length - ll = rl by have := HES.out; omega]
          rw [HEL.out] at e
          simpa using e
end Go.Proofs.Ytcaffohojaobaaa

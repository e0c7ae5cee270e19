/- Copy of types, and the walk of TypesCopies. Condition: the types lie in memory, and none has more than 100000000 types next in it. -/
import Derived.Test.YtfjflfokmihcpaaN
import Derived.Test.YtfjflfokmihcpaaRc
import Derived.Test.YtfjflfokmihcpaaF2
namespace Go.Proofs.Ytfjflfokmihcpaa
open Go.RowKit
set_option linter.unusedVariables false
set_option linter.unusedSimpArgs false
set_option linter.unusedSimpArgs false
noncomputable def CopyP (R : Nat) (T : Ty) (w : World) (e : Ending) (w' : World) : Prop :=
  ∃ h' : Hd, e = .returned (.tuple #[h'.val, .int .i64 (ef (look 9 T).2.2)]) ∧ Kp w w' ∧ ((look 9 T).2.2 = true → Lies w' (From w.heap.size) R T h') ∧ ((look 9 T).2.2 = false → h' = hd0)
def tzC : Ty := .mk 0 ⟨#[]⟩ 0 [] 0 []
theorem hd0_liesC (w : World) (S : Sel) (r : Nat) : Lies w S (r + 1) tzC hd0 := by
  refine ⟨fun _ => hd0, ⟨rfl, rfl, rfl, rfl, rfl, rfl, by decide, by decide, by decide, (fun n hn => by cases hn), by decide, by decide, by decide, tab_nil _ _ _ _ _, tab_nil _ _ _ _ _, tab_nil _ _ _ _ _⟩, fun i X hX => ?_⟩
  simp [tzC, Ty.kids] at hX
theorem same_zeroC (w : World) : Calls Try.prog 20 #[.agg #[.int .i64 0, .string ⟨#[]⟩, .int .i64 0, .slice none 0 0, .slice none 0 0, .slice none 0 0], .agg #[.int .i64 0, .string ⟨#[]⟩, .int .i64 0, .slice none 0 0, .slice none 0 0, .slice none 0 0]] w fun e w' => e = .returned (.bool true) ∧ Kp w w' := by
  obtain ⟨K, t, _⟩ := hd0_liesC w A0 0
  have h := refSame_00 tzC tzC hd0 hd0 K K w t t (by decide) (by decide) (topB_yes ⟨rfl, rfl, rfl, rfl, rfl, rfl⟩) rfl rfl rfl rfl rfl rfl rfl rfl
  rw [eqB_yes rfl] at h
  exact h
set_option maxHeartbeats 3200000 in
set_option maxRecDepth 100000 in
theorem c_Copy (R : Nat) (T : Ty) (h : Hd) (w : World) (hl : Lies w A0 R T h) : Calls Try.prog 38 #[h.val] w (CopyP R T w) := by
  have HL := Lib.hid hl
  have KA := Lib.hid (show Kp w ((w.alloc (.cells #[.int .i64 h.k, .string h.nm, .int .i64 h.con, .slice h.fa h.fl h.fc, .slice h.la h.ll h.lc, .slice h.ra h.rl h.rc] 42)).alloc (.cells #[.int .i64 0, .string ⟨#[]⟩, .int .i64 0, .slice none 0 0, .slice none 0 0, .slice none 0 0] 42)) from ((Kp.refl w).alloc _).alloc _)
  have RH := Lib.hid (fun W (hk : Kp ((w.alloc (.cells #[.int .i64 h.k, .string h.nm, .int .i64 h.con, .slice h.fa h.fl h.fc, .slice h.la h.ll h.lc, .slice h.ra h.rl h.rc] 42)).alloc (.cells #[.int .i64 0, .string ⟨#[]⟩, .int .i64 0, .slice none 0 0, .slice none 0 0, .slice none 0 0] 42)) W) => (hk.blk (b := w.heap.size) (by simp <;> omega)).trans ((((Kp.refl _).alloc _).blk (b := w.heap.size) (by simp)).trans (heap_alloc_new w (.cells #[.int .i64 h.k, .string h.nm, .int .i64 h.con, .slice h.fa h.fl h.fc, .slice h.la h.ll h.lc, .slice h.ra h.rl h.rc] 42))))
  have RO := Lib.hid (fun W (hk : Kp ((w.alloc (.cells #[.int .i64 h.k, .string h.nm, .int .i64 h.con, .slice h.fa h.fl h.fc, .slice h.la h.ll h.lc, .slice h.ra h.rl h.rc] 42)).alloc (.cells #[.int .i64 0, .string ⟨#[]⟩, .int .i64 0, .slice none 0 0, .slice none 0 0, .slice none 0 0] 42)) W) => (hk.blk (b := w.heap.size + 1) (by simp)).trans (heap_at (by simp) : ((w.alloc (.cells #[.int .i64 h.k, .string h.nm, .int .i64 h.con, .slice h.fa h.fl h.fc, .slice h.la h.ll h.lc, .slice h.ra h.rl h.rc] 42)).alloc (.cells #[.int .i64 0, .string ⟨#[]⟩, .int .i64 0, .slice none 0 0, .slice none 0 0, .slice none 0 0] 42)).heap[w.heap.size + 1]? = some (.cells #[.int .i64 0, .string ⟨#[]⟩, .int .i64 0, .slice none 0 0, .slice none 0 0, .slice none 0 0] 42 (0, 0))))
  clear hl
  cases hg : (look 9 T).2.2 with
  | false =>
    have HG := Lib.hid hg
    go_enter Try.func38, Try.ntmps38
    go_wp2_with (first | (go_at_call 29; (with_reducible refine (c_Check R T h _ (HL.out.keep KA.out)).mono ?_); rintro e w1 ⟨rfl, hk1⟩; rw [HG.out, show ef false = 1 from rfl]; have KB1 := Lib.hid hk1; obtain ⟨z0, z1, z2, z3, z4, z5, zq⟩ := row6 (RH.out _ hk1); clear hk1) | ((with_reducible show wpList _ _ _ (⟨none, .store _ (.tmp 2) (.tmp 9), _, _, _, _⟩ :: _) _ _); refine wpList_store_rowK (by rfl) 42 _ _ (by rfl) (w.heap.size + 1) #[.int .i64 0, .string ⟨#[]⟩, .int .i64 0, .slice none 0 0, .slice none 0 0, .slice none 0 0] (by rfl) (by rfl) 42 _ (RO.out _ KB1.out) (by exact sizeT) (by rfl) (by simp [Value.oneCell']) ?_; intro w5 hb5 hke; obtain ⟨u0, u1, u2, u3, u4, u5, us⟩ := row6 hb5; have HKE := Lib.hid hke; clear hke hb5))
    refine bodyPost_ret (v := .tuple #[.agg #[.int .i64 0, .string ⟨#[]⟩, .int .i64 0, .slice none 0 0, .slice none 0 0, .slice none 0 0], .int .i64 1]) (by simp [results, Try.results38, go_sem, u0, u1, u2, u3, u4, u5]) rfl ⟨hd0, by rw [HG.out]; rfl, ?_, fun q => by (rw [HG.out] at q; cases q), fun _ => rfl⟩
    exact HKE.out.old (KA.out.trans KB1.out) (by omega)
  | true =>
    have HG := Lib.hid hg
    go_enter Try.func38, Try.ntmps38
    go_wp2_with (first | (go_at_call 29; (with_reducible refine (c_Check R T h _ (HL.out.keep KA.out)).mono ?_); rintro e w1 ⟨rfl, hk1⟩; rw [HG.out, show ef true = 0 from rfl]; have KB1 := Lib.hid hk1; obtain ⟨z0, z1, z2, z3, z4, z5, zq⟩ := row6 (RH.out _ hk1); clear hk1) | (go_at_call 32; (with_reducible refine (c_replace0 R T h _ (HL.out.keep (KA.out.trans KB1.out))).mono ?_); rintro e w2 ⟨⟨yk, ynm, ycon, yfa, yfl, yfc, yla, yll, ylc, yra, yrl, yrc⟩, rfl, hli, hk2⟩; have KB2 := Lib.hid hk2; have LI := Lib.hid hli; clear hli hk2) | ((with_reducible show wpList _ _ _ (⟨none, .store _ (.tmp 2) (.tmp 12), _, _, _, _⟩ :: _) _ _); refine wpList_store_rowK (by rfl) 42 _ _ (by rfl) (w.heap.size + 1) #[.int .i64 yk, .string ynm, .int .i64 ycon, .slice yfa yfl yfc, .slice yla yll ylc, .slice yra yrl yrc] (by rfl) (by rfl) 42 _ (RO.out _ (KB1.out.trans KB2.out)) (by exact sizeT) (by rfl) (by simp [Value.oneCell']) ?_; intro w5 hb5 hke; obtain ⟨u0, u1, u2, u3, u4, u5, us⟩ := row6 hb5; have HKE := Lib.hid hke; clear hke hb5))
    refine bodyPost_ret (v := .tuple #[.agg #[.int .i64 yk, .string ynm, .int .i64 ycon, .slice yfa yfl yfc, .slice yla yll ylc, .slice yra yrl yrc], .int .i64 0]) (by simp [results, Try.results38, go_sem, u0, u1, u2, u3, u4, u5]) rfl ⟨⟨yk, ynm, ycon, yfa, yfl, yfc, yla, yll, ylc, yra, yrl, yrc⟩, by rw [HG.out]; rfl, ?_, fun _ => ?_, fun q => by (rw [HG.out] at q; cases q)⟩
    · exact HKE.out.old (KA.out.trans (KB1.out.trans KB2.out)) (by omega)
    · have hs := HKE.out.2.2.2.1
      have h1 := KB1.out.sz
      simp only [World.size_alloc] at h1
      exact (LI.out.turn HKE.out.fr hs (fun b _ (hb : w1.heap.size ≤ b) (he : b = w.heap.size + 1) => by omega)).weak (From_le (by omega))
end Go.Proofs.Ytfjflfokmihcpaa

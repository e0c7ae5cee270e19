/- Tokens of the reference answers what Tokens of package scan answers. No condition. -/
import Derived.Test.YtjpmgloofcgfnaaDoorG5
import Derived.Test.YtjpmgloofcgfnaaDoorD7
namespace Go.Proofs.YtjpmgloofcgfnaaDoor
open Go.RowKit
set_option linter.unusedVariables false
set_option linter.unusedSimpArgs false

theorem c_nextE (s : ByteArray) (p : Nat) (t0 : Tk) (er : Int) (w : World) (hp : p < s.size) (hs : s.size ≤ 65536) (h : firstV (s.extract p s.size) (rn s p) = (t0, er)) : Calls Tryd.prog 26 #[.string s, .int .i64 p] w fun e w' => ∃ (t : Tk) (en : Int), e = .returned (.tuple #[.agg #[.int .i64 t.k, .string t.text, .int .u64 t.n, .int .i64 t.pos], .int .i64 en, .int .i64 er]) ∧ Kp w w' :=
  (c_next s p w hp hs).mono fun e w' hq => by
    rw [h] at hq
    obtain ⟨hk, t, en, he, _⟩ := hq
    exact ⟨t, en, he, hk⟩
theorem c_nextO (s : ByteArray) (p : Nat) (t0 : Tk) (w : World) (hp : p < s.size) (hs : s.size ≤ 65536) (h : firstV (s.extract p s.size) (rn s p) = (t0, 0)) : Calls Tryd.prog 26 #[.string s, .int .i64 p] w fun e w' => e = .returned (.tuple #[.agg #[.int .i64 t0.k, .string t0.text, .int .u64 t0.n, .int .i64 p], .int .i64 ((p + t0.text.size : Nat) : Int), .int .i64 0]) ∧ Kp w w' :=
  (c_next s p w hp hs).mono fun e w' hq => by
    rw [h] at hq
    obtain ⟨hk, t, en, he, h2⟩ := hq
    obtain ⟨rfl, rfl⟩ := h2 rfl
    exact ⟨he, hk⟩
theorem c_closE {s : ByteArray} {c : Int} {t : Tk} (h : firstV s c = (t, 0)) (p : Int) (w : World) : Calls Tryd.prog 27 #[.agg #[.int .i64 t.k, .string t.text, .int .u64 t.n, .int .i64 p]] w fun e w' => e = .returned (.bool (endsB { t with pos := p })) ∧ Kp w w' := by
  have := c_closes { t with pos := p } w
  rw [clos_ends h p] at this
  exact this
theorem brk_lt {s : ByteArray} : ∀ {b pos p : Nat}, brkFrom s b pos = some p → p < s.size
  | 0, pos, p, h => by cases h
  | b + 1, pos, p, h => by
    rw [brkFrom] at h
    split at h
    · rename_i hp
      split at h
      · cases h; exact hp
      · exact brk_lt h
    · cases h
theorem u8e {c : UInt8} {n : Nat} (h : n < 256) (e : (c.toNat : Int) = n) : c = UInt8.ofNat n := by rw [u8q c n h]; exact e
theorem own_sl {w : World} {B : Nat} {e : TypeId} {m n : Nat} {v : Value} {xs : List Value} (h : w.ownsRow B e m v n xs) : ∃ ad c, v = .slice ad n c := by
  rcases h.2 with ⟨hv, hn⟩ | ⟨g, cap, cur, hv, _⟩
  · exact ⟨none, 0, by rw [hv, hn]⟩
  · exact ⟨_, cap, hv⟩
theorem line_ne {s : ByteArray} {p q : Nat} (h1 : p ≤ q) (h2 : q < lineEnd s p) : byt s q ≠ 10 := by
  unfold lineEnd at h2
  have h3 : (s.data.toList.drop p).takeWhile (· != 10) <+: s.data.toList.drop p := List.takeWhile_prefix _
  have hl : q - p < ((s.data.toList.drop p).takeWhile (· != 10)).length := by omega
  have h4 : ((s.data.toList.drop p).takeWhile (· != 10))[q - p]? = (s.data.toList.drop p)[q - p]? := by
    obtain ⟨r, hr⟩ := h3
    conv => rhs; rw [← hr]
    rw [List.getElem?_append_left hl]
  have h5 : byt s q = ((s.data.toList.drop p).takeWhile (· != 10))[q - p] := by
    unfold byt
    rw [List.getElem?_eq_getElem hl, List.getElem?_drop, show p + (q - p) = q by omega] at h4
    rw [List.getD_eq_getElem?_getD, ← h4]
    rfl
  rw [h5]
  exact tw_none _ _ (List.getElem_mem hl)
theorem box_grown {wr w3 w1 : World} {o o2 : Obj} {v : Value} {n m B : Nat} {e : TypeId} {xs : List Value} (hr : wr.ownsRow B e m v n xs) (hs : wr.heap.size ≤ w3.heap.size) (hg : ((w3.alloc o).alloc o2).grownBy w1 v.ownBlock) : w1.heap[w3.heap.size]? = some o := by
  have h1 := hg.block w3.heap.size (by simp; omega) (fun e => by have := (hr.lt _ e.symm).2; omega)
  rw [h1]
  exact (((Kp.refl (w3.alloc o)).alloc o2).blk (b := w3.heap.size) (by simp)).trans (heap_alloc_new w3 o)
theorem box_tok {wr w3 w1 : World} {k n2 p : Int} {tx : ByteArray} {o2 : Obj} {v : Value} {n m B : Nat} {e e2 : TypeId} {xs : List Value} (hr : wr.ownsRow B e m v n xs) (hs : wr.heap.size ≤ w3.heap.size) (hg : ((w3.alloc (.cells #[.int .i64 k, .string tx, .int .u64 n2, .int .i64 p] e2)).alloc o2).grownBy w1 v.ownBlock) :
    w1.cell? ⟨w3.heap.size, 0, none⟩ = some (.int .i64 k) ∧ w1.cell? ⟨w3.heap.size, 1, none⟩ = some (.string tx) ∧ w1.cell? ⟨w3.heap.size, 2, none⟩ = some (.int .u64 n2) ∧ w1.cell? ⟨w3.heap.size, 3, none⟩ = some (.int .i64 p) := by
  have bx := box_grown hr hs hg
  exact ⟨cell_of_row w1 w3.heap.size 0 _ _ _ bx, cell_of_row w1 w3.heap.size 1 _ _ _ bx, cell_of_row w1 w3.heap.size 2 _ _ _ bx, cell_of_row w1 w3.heap.size 3 _ _ _ bx⟩
theorem rt_large (s : ByteArray) (w : World) (h : 65536 < s.size) : Calls Tryd.prog 11 #[.string s] w (ToksP s (toksV s) w) := by
  rw [show toksV s = .error (0, 6) by unfold toksV; rw [if_pos h]]
  have i1 : (65536 : Int) < s.size := by omega
  clear h
  go_enter Tryd.func11, Tryd.ntmps11
  go_wp2_with fail
  go_ret3
  exact ⟨Kp.refl w, rfl⟩
theorem rt_bad (s : ByteArray) (p : Nat) (w : World) (h : s.size ≤ 65536) (hb : badV s = some p) : Calls Tryd.prog 11 #[.string s] w (ToksP s (toksV s) w) := by
  rw [show toksV s = .error (p, 3) by unfold toksV; rw [if_neg (by omega), hb]]
  have i1 : (s.size : Int) ≤ 65536 := by omega
  have hpl : p < s.size := brk_lt hb
  have i2 : (p : Int) < s.size := by omega
  have HB := Lib.hid (fun W => c_Broken s W h)
  rw [hb] at HB
  clear h hb
  go_enter Tryd.func11, Tryd.ntmps11
  go_wp2_with (first | (go_at_call 25; (with_reducible refine (HB.out w).mono ?_); rintro e w2 ⟨rfl, hk2⟩; have K2 := Lib.hid hk2; clear hk2; rw [show badN s (some p) = (p : Int) from rfl]) | (go_at_call 25; (with_reducible refine (HB.out w2).mono ?_); rintro e w3 ⟨rfl, hk3⟩; rw [show badN s (some p) = (p : Int) from rfl]))
  go_ret3
  exact ⟨K2.out.trans hk3, rfl⟩
set_option maxHeartbeats 6400000 in
set_option maxRecDepth 1000000 in
theorem rt_good (s : ByteArray) (w : World) (h : s.size ≤ 65536) (hb : badV s = none) : Calls Tryd.prog 11 #[.string s] w (ToksP s (toksV s) w) := by
  rw [show toksV s = scanP s 0 0 [] by unfold toksV; rw [if_neg (by omega), hb]]
  have i1 : (s.size : Int) ≤ 65536 := by omega
  have HB := Lib.hid (fun W => c_Broken s W h)
  rw [hb] at HB
  obtain ⟨i0, hi, hz0, hz1, hz2⟩ := info_parts infoTk
  generalize hv : scanP s 0 0 [] = r
  have HV := Lib.hid hv
  clear hb hv
  go_enter Tryd.func11, Tryd.ntmps11
  go_wp2_with (first | (go_at_call 25; (with_reducible refine (HB.out w).mono ?_); rintro e w2 ⟨rfl, hk2⟩; have K2 := Lib.hid hk2; clear hk2; rw [show badN s none = (s.size : Int) from rfl]))
  go_loopw [5, 6, 7] (fun v o i wr => ∃ (p : Nat) (L : List Tk), p ≤ s.size + 1 ∧ i = .int .i64 p ∧ o = .bool (opB L) ∧ wr.ownsRow w2.heap.size 33 4 v L.length (tkCells L) ∧ Kp w2 wr ∧ L.length ≤ 16384 ∧ Hid (if p ≤ s.size then scanP s p p L = r else r = .ok L)) (fun _ _ i _ => s.size + 1 - (intOf i).toNat)
  case atStart => exact ⟨0, [], by omega, rfl, rfl, World.ownsRow_nil _ _ _ _, Kp.refl _, by simp, Lib.hid (by rw [if_pos (Nat.zero_le _)]; exact HV.out)⟩
  case round =>
    obtain ⟨p, L, hp1, rfl, rfl, hown, hkr, hL, HC⟩ := hrel
    have HO := Lib.hid hown
    have HKR := Lib.hid hkr
    obtain ⟨ad, c, rfl⟩ := own_sl hown
    have hbs := hkr.sz
    clear hown hkr
    have i2 : (0 : Int) ≤ (p : Int) := by omega
    by_cases hpe : p = s.size + 1
    · have j1 : ¬ ((p : Int) ≤ (s.size : Int)) := by omega
      have hr : r = .ok L := by have := HC.out; rwa [if_neg (by omega)] at this
      have HR := Lib.hid hr
      clear hr
      go_wp2_with fail
      go_ret3
      rw [HR.out]
      exact ⟨K2.out.trans HKR.out, _, rfl, own_base HO.out K2.out.sz⟩
    by_cases hps : p = s.size
    · subst hps
      have HC2 := Lib.hid (show (match endV L s.size with | some L' => (.ok L' : Except (Int × Int) (List Tk)) | none => .error ((s.size : Int), 6)) = r by have := HC.out; rw [if_pos (Nat.le_refl _), scanP_end (Nat.lt_irrefl _)] at this; exact this)
      have HEV := Lib.hid (endV_op L (s.size : Int))
      cases hop : opB L with
      | false =>
        have HOP := Lib.hid hop
        clear hop
        go_wp2_with fail
        go_roundw
        case rel =>
          have h1 := HEV.out
          rw [HOP.out, if_neg (by decide)] at h1
          exact ⟨s.size + 1, L, by omega, by go_num, by rw [HOP.out], HO.out, HKR.out, hL, Lib.hid (by have h2 := HC2.out; rw [h1] at h2; simp only at h2; rw [if_neg (by omega)]; exact h2.symm)⟩
        case measure => simp [intOf] <;> omega
      | true =>
        have HOP := Lib.hid hop
        clear hop
        by_cases hfull : L.length = 16384
        · have j9 : (L.length : Int) = 16384 := by omega
          go_wp2_with fail
          go_ret3
          have h1 := HEV.out
          rw [HOP.out, if_pos rfl, if_pos (by omega)] at h1
          have hr : r = .error ((s.size : Int), 6) := by have h2 := HC2.out; rw [h1] at h2; exact h2.symm
          rw [hr]
          exact ⟨K2.out.trans HKR.out, rfl⟩
        · have j9 : (L.length : Int) ≠ 16384 := by omega
          go_wp2_with (first | ((with_reducible show wpList _ _ _ (⟨some 44, _, _, _, _, _⟩ :: _) _ _); refine wpList_append_one (d := 44) _ _ 22 rfl w2.heap.size 33 i0 _ 4 40 Tryd.underlying22 hi hz0 hz1 hz2 rfl (by decide) (.slice ad L.length c) L.length _ (by rfl) _ HO.out [.int .i64 5, .string ⟨#[]⟩, .int .u64 0, .int .i64 s.size] _ _ _ (by rfl) (by first | rfl | simp) (by rfl) (by rfl) (by intro u hu; simp at hu; rcases hu with rfl | rfl | rfl | rfl | rfl | rfl | rfl <;> rfl) (by unfold maxLen; omega) (by omega) (by first | omega | (simp; omega)) ?_; intro v1 w1 ho1 hg1))
          go_roundw
          case rel =>
            have h1 := HEV.out
            rw [HOP.out, if_pos rfl, if_neg (by omega)] at h1
            exact ⟨s.size + 1, L ++ [semiT s.size], by omega, by go_num, by rw [opB_push]; simp [endsB, semiT], own_snoc (t := semiT s.size) ho1, (HKR.out.alloc _).grown hg1 (own_new HO.out), by rw [List.length_append]; show L.length + 1 ≤ 16384; omega, Lib.hid (by have h2 := HC2.out; rw [h1] at h2; simp only at h2; rw [if_neg (by omega)]; exact h2.symm)⟩
          case measure => simp [intOf] <;> omega
    have hp : p < s.size := by omega
    have j1 : (p : Int) ≤ (s.size : Int) := by omega
    have j2 : (p : Int) < (s.size : Int) := by omega
    have j3 : ((p : Int) == (s.size : Int)) = false := beq_eq_false_iff_ne.2 (by omega)
    have HC2 := Lib.hid (show scanP s p p L = r by have := HC.out; rwa [if_pos (by omega)] at this)
    obtain ⟨b, hbv⟩ : ∃ b : Int, ((s[p]'hp).toNat : Int) = b := ⟨_, rfl⟩
    have hbb : ((byt s p).toNat : Int) = b := by rw [← byt_get hp]; exact hbv
    by_cases h10 : b = 10
    · subst h10
      have hb10 : byt s p = 10 := u8e (by decide) hbb
      have HS := Lib.hid (s_nl (L := L) hp hb10)
      clear hbb hb10
      have HEV := Lib.hid (endV_op L (p : Int))
      cases hop : opB L with
      | false =>
        have HOP := Lib.hid hop
        clear hop
        go_wp2_with fail
        go_roundw
        case rel =>
          have h1 := HEV.out
          rw [HOP.out, if_neg (by decide)] at h1
          exact ⟨p + 1, L, by omega, by go_num, by rw [HOP.out], HO.out, HKR.out, hL, Lib.hid (by have h2 := HS.out; rw [h1] at h2; simp only at h2; rw [if_pos (by omega), ← h2]; exact HC2.out)⟩
        case measure => simp [intOf] <;> omega
      | true =>
        have HOP := Lib.hid hop
        clear hop
        by_cases hfull : L.length = 16384
        · have j9 : (L.length : Int) = 16384 := by omega
          go_wp2_with fail
          go_ret3
          have h1 := HEV.out
          rw [HOP.out, if_pos rfl, if_pos (by omega)] at h1
          have hr : r = .error ((p : Int), 6) := by have h2 := HS.out; rw [h1] at h2; simp only at h2; rw [← h2]; exact HC2.out.symm
          rw [hr]
          exact ⟨K2.out.trans HKR.out, rfl⟩
        · have j9 : (L.length : Int) ≠ 16384 := by omega
          go_wp2_with (first | ((with_reducible show wpList _ _ _ (⟨some 44, _, _, _, _, _⟩ :: _) _ _); refine wpList_append_one (d := 44) _ _ 22 rfl w2.heap.size 33 i0 _ 4 40 Tryd.underlying22 hi hz0 hz1 hz2 rfl (by decide) (.slice ad L.length c) L.length _ (by rfl) _ HO.out [.int .i64 5, .string ⟨#[]⟩, .int .u64 0, .int .i64 p] _ _ _ (by rfl) (by first | rfl | simp) (by rfl) (by rfl) (by intro u hu; simp at hu; rcases hu with rfl | rfl | rfl | rfl | rfl | rfl | rfl <;> rfl) (by unfold maxLen; omega) (by omega) (by first | omega | (simp; omega)) ?_; intro v1 w1 ho1 hg1))
          go_roundw
          case rel =>
            have h1 := HEV.out
            rw [HOP.out, if_pos rfl, if_neg (by omega)] at h1
            exact ⟨p + 1, L ++ [semiT p], by omega, by go_num, by rw [opB_push]; simp [endsB, semiT], own_snoc (t := semiT p) ho1, (HKR.out.alloc _).grown hg1 (own_new HO.out), by rw [List.length_append]; show L.length + 1 ≤ 16384; omega, Lib.hid (by have h2 := HS.out; rw [h1] at h2; simp only at h2; rw [if_pos (by omega), ← h2]; exact HC2.out)⟩
          case measure => simp [intOf] <;> omega
    by_cases hbl : b = 9 ∨ b = 13 ∨ b = 32
    · have hbl2 : byt s p = 9 ∨ byt s p = 13 ∨ byt s p = 32 := by
        rcases hbl with h | h | h
        · left; exact u8e (n := 9) (by decide) (hbb.trans h)
        · right; left; exact u8e (n := 13) (by decide) (hbb.trans h)
        · right; right; exact u8e (n := 32) (by decide) (hbb.trans h)
      have HS := Lib.hid (s_blank (L := L) hp hbl2)
      clear hbb hbl2
      rcases hbl with rfl | rfl | rfl <;>
      (go_wp2_with fail
       go_roundw
       case rel => exact ⟨p + 1, L, by omega, by go_num, rfl, HO.out, HKR.out, hL, Lib.hid (by rw [if_pos (by omega), ← HS.out]; exact HC2.out)⟩
       case measure => simp [intOf] <;> omega)
    have n9 : b ≠ 9 := fun e => hbl (.inl e)
    have n13 : b ≠ 13 := fun e => hbl (.inr (.inl e))
    have n32 : b ≠ 32 := fun e => hbl (.inr (.inr e))
    have q9 : (b == 9) = false := beq_eq_false_iff_ne.2 n9
    have q13 : (b == 13) = false := beq_eq_false_iff_ne.2 n13
    have q32 : (b == 32) = false := beq_eq_false_iff_ne.2 n32
    have q10 : (b == 10) = false := beq_eq_false_iff_ne.2 h10
    by_cases hrm : Lib.hasPrefix (s.data.toList.drop p) [47, 47] = true
    · obtain ⟨r0, r1, r2⟩ := two_inside hrm
      have hb47 : b = 47 := by rw [← hbb, r1]; rfl
      subst hb47
      have hp1' : p + 1 < s.size := by omega
      have hbv1 : ((s[p + 1]'hp1').toNat : Int) = 47 := by rw [byt_get hp1', r2]; rfl
      have j4 : (p : Int) + 1 < s.size := by omega
      have j5 : (0 : Int) ≤ (p : Int) + 1 := by omega
      have j6 : ((p : Int) + 1).toNat = p + 1 := by omega
      have q47 : decide ((p : Int) + 1 < (s.size : Int)) = true := decide_eq_true j4
      have HS := Lib.hid (s_rem (L := L) hrm)
      have hle := lineEnd_le (s := s) (p := p) (by omega)
      have hl2 := lineEnd_two hrm
      obtain ⟨le, hle0⟩ : ∃ le, lineEnd s p = le := ⟨_, rfl⟩
      rw [hle0] at hle hl2
      have HLE := Lib.hid hle0
      clear hbb r1 r2 hrm hle0 r0
      go_wp2_with fail
      go_loopw [7] (fun i wq => ∃ q : Nat, p ≤ q ∧ q ≤ le ∧ i = .int .i64 q ∧ wr = wq) (fun i _ => le - (intOf i).toNat)
      case atStart => exact ⟨p, Nat.le_refl _, hle.1, rfl, rfl⟩
      case round =>
        obtain ⟨q, hq1, hq2, rfl, rfl⟩ := hrel
        have k1 : (0 : Int) ≤ (q : Int) := by omega
        by_cases hql : q < le
        · have hqs : q < s.size := by omega
          have k2 : (q : Int) < (s.size : Int) := by omega
          have hne := line_ne (s := s) (p := p) (q := q) hq1 (by rw [HLE.out]; exact hql)
          have k3 : ((s[q]'hqs).toNat : Int) ≠ 10 := fun e => hne (u8e (n := 10) (by decide) (by rw [← byt_get hqs]; exact e))
          have k4 : (((s[q]'hqs).toNat : Int) == 10) = false := beq_eq_false_iff_ne.2 k3
          have k5 : (((s[q]'hqs).toNat : Int) != 10) = true := bne_iff_ne.2 k3
          clear hne
          go_wp2_with fail
          go_roundw
          case rel => exact ⟨q + 1, by omega, by omega, by go_num, trivial⟩
          case measure => simp [intOf] <;> omega
        · obtain rfl : q = le := by omega
          by_cases hqs : q < s.size
          · have k2 : (q : Int) < (s.size : Int) := by omega
            have hla := lineEnd_at (s := s) (p := p) (by rw [HLE.out]; exact hqs)
            rw [HLE.out] at hla
            have k3 : ((s[q]'hqs).toNat : Int) = 10 := by rw [byt_get hqs, hla]; rfl
            clear hla
            go_wp2_with fail
            go_roundw
            case rel => exact ⟨q, L, by omega, by go_num, rfl, HO.out, HKR.out, hL, Lib.hid (by rw [if_pos (by omega), ← HC2.out, HS.out, HLE.out])⟩
            case measure => simp [intOf] <;> omega
          · have k2 : ¬ ((q : Int) < (s.size : Int)) := by omega
            go_wp2_with fail
            go_roundw
            case rel => exact ⟨q, L, by omega, by go_num, rfl, HO.out, HKR.out, hL, Lib.hid (by rw [if_pos (by omega), ← HC2.out, HS.out, HLE.out])⟩
            case measure => simp [intOf] <;> omega
    have hrf : Lib.hasPrefix (s.data.toList.drop p) [47, 47] = false := by simpa using hrm
    obtain ⟨t0, er, hf⟩ : ∃ t0 er, firstV (s.extract p s.size) (rn s p) = (t0, er) := ⟨_, _, rfl⟩
    have hn10 : byt s p ≠ 10 := fun e => h10 (by rw [← hbb, e]; rfl)
    have hnb : ¬ (byt s p = 9 ∨ byt s p = 13 ∨ byt s p = 32) := fun e => hbl (by rcases e with e | e | e <;> rw [e] at hbb <;> rw [← hbb] <;> decide)
    have HS := Lib.hid (s_tok (L := L) hp hn10 hnb hrf t0 er hf)
    have HF := Lib.hid hf
    clear hf hn10 hnb hrm
    by_cases hb47 : b = 47
    · subst hb47
      have hb0 : byt s p = 47 := u8e (by decide) hbb
      clear hbb
      by_cases hp1' : p + 1 < s.size
      · obtain ⟨b1, hbv1⟩ : ∃ b1 : Int, ((s[p + 1]'hp1').toNat : Int) = b1 := ⟨_, rfl⟩
        have hb1 : b1 ≠ 47 := fun e => by
          have h1 : byt s (p + 1) = 47 := u8e (by decide) (by rw [← byt_get hp1', hbv1, e]; rfl)
          rw [pre_two hp1' hb0 h1] at hrf
          cases hrf
        have q471 : (b1 == 47) = false := beq_eq_false_iff_ne.2 hb1
        have j4 : (p : Int) + 1 < s.size := by omega
        have j5 : (0 : Int) ≤ (p : Int) + 1 := by omega
        have j6 : ((p : Int) + 1).toNat = p + 1 := by omega
        have q47 : decide ((p : Int) + 1 < (s.size : Int)) = true := decide_eq_true j4
        clear hrf hb0
        by_cases her : er = 0
        · subst her
          have CO := Lib.hid (fun W => c_nextO s p t0 W hp h HF.out)
          by_cases hfull : L.length = 16384
          · have j9 : (L.length : Int) = 16384 := by omega
            go_wp2_with (first | (go_at_call 26; (with_reducible refine (CO.out _).mono ?_); rintro e w3 ⟨rfl, hk3⟩; have K3 := Lib.hid hk3; clear hk3))
            go_ret3
            have h1 := HS.out
            rw [if_neg (by simp), if_pos (by omega)] at h1
            have hr : r = .error ((p : Int), 6) := by rw [← HC2.out, h1]
            rw [hr]
            exact ⟨(K2.out.trans (HKR.out.trans K3.out)).alloc _, rfl⟩
          · have j9 : (L.length : Int) ≠ 16384 := by omega
            have hst := tok_stands hp HF.out
            have hpos := hst.pos
            have hroom := hst.room
            have CC := Lib.hid (fun W => c_closE HF.out (p : Int) W)
            have HOUT := Lib.hid (show scanP s (p + t0.text.size) ((p + t0.text.size : Nat) : Int) (L ++ [{ t0 with pos := (p : Int) }]) = r by have h1 := HS.out; rw [if_neg (by simp), if_neg (by omega)] at h1; rw [← h1]; exact HC2.out)
            clear hst
            go_wp2_with (first | (go_at_call 26; (with_reducible refine (CO.out _).mono ?_); rintro e w3 ⟨rfl, hk3⟩; have K3 := Lib.hid hk3; have hsz3 := hk3.sz; clear hk3) | ((with_reducible show wpList _ _ _ (⟨some 116, _, _, _, _, _⟩ :: _) _ _); refine wpList_append_one (d := 116) _ _ 22 rfl w2.heap.size 33 i0 _ 4 40 Tryd.underlying22 hi hz0 hz1 hz2 rfl (by decide) (.slice ad L.length c) L.length _ (by rfl) _ (own_keep HO.out (K3.out.alloc (.cells #[.int .i64 t0.k, .string t0.text, .int .u64 t0.n, .int .i64 p] 33))) [.int .i64 t0.k, .string t0.text, .int .u64 t0.n, .int .i64 p] _ _ _ (by rfl) (by first | rfl | simp) (by rfl) (by rfl) (by intro u hu; simp at hu; rcases hu with rfl | rfl | rfl | rfl | rfl | rfl | rfl <;> rfl) (by unfold maxLen; omega) (by omega) (by first | omega | (simp; omega)) ?_; intro v1 w1 ho1 hg1; (obtain ⟨u0, u1, u2, u3⟩ := box_tok HO.out K3.out.sz hg1)) | (go_at_call 27; (with_reducible refine (CC.out _).mono ?_); rintro e w5 ⟨rfl, hk5⟩; have K5 := Lib.hid hk5; clear hk5))
            go_roundw
            case rel => exact ⟨p + t0.text.size, L ++ [{ t0 with pos := (p : Int) }], by omega, by go_num, by rw [opB_push], own_keep (own_snoc (t := { t0 with pos := (p : Int) }) ho1) K5.out, ((((HKR.out.trans K3.out).alloc _).alloc _).grown hg1 (own_new HO.out)).trans K5.out, by rw [List.length_append]; show L.length + 1 ≤ 16384; omega, Lib.hid (by rw [if_pos (by omega)]; exact HOUT.out)⟩
            case measure => simp [intOf] <;> omega
        · have qer : (er == 0) = false := beq_eq_false_iff_ne.2 her
          have qer2 : (er != 0) = true := bne_iff_ne.2 her
          have CE := Lib.hid (fun W => c_nextE s p t0 er W hp h HF.out)
          have HER := Lib.hid her
          clear her
          go_wp2_with (first | (go_at_call 26; (with_reducible refine (CE.out _).mono ?_); rintro e w3 ⟨t, en, rfl, hk3⟩; have K3 := Lib.hid hk3; clear hk3))
          go_ret3
          have h1 := HS.out
          rw [if_pos HER.out] at h1
          have hr : r = .error ((p : Int), er) := by rw [← HC2.out, h1]
          rw [hr]
          exact ⟨(K2.out.trans (HKR.out.trans K3.out)).alloc _, rfl⟩
      · have q47 : decide ((p : Int) + 1 < (s.size : Int)) = false := decide_eq_false (by omega)
        clear hrf hb0
        by_cases her : er = 0
        · subst her
          have CO := Lib.hid (fun W => c_nextO s p t0 W hp h HF.out)
          by_cases hfull : L.length = 16384
          · have j9 : (L.length : Int) = 16384 := by omega
            go_wp2_with (first | (go_at_call 26; (with_reducible refine (CO.out _).mono ?_); rintro e w3 ⟨rfl, hk3⟩; have K3 := Lib.hid hk3; clear hk3))
            go_ret3
            have h1 := HS.out
            rw [if_neg (by simp), if_pos (by omega)] at h1
            have hr : r = .error ((p : Int), 6) := by rw [← HC2.out, h1]
            rw [hr]
            exact ⟨(K2.out.trans (HKR.out.trans K3.out)).alloc _, rfl⟩
          · have j9 : (L.length : Int) ≠ 16384 := by omega
            have hst := tok_stands hp HF.out
            have hpos := hst.pos
            have hroom := hst.room
            have CC := Lib.hid (fun W => c_closE HF.out (p : Int) W)
            have HOUT := Lib.hid (show scanP s (p + t0.text.size) ((p + t0.text.size : Nat) : Int) (L ++ [{ t0 with pos := (p : Int) }]) = r by have h1 := HS.out; rw [if_neg (by simp), if_neg (by omega)] at h1; rw [← h1]; exact HC2.out)
            clear hst
            go_wp2_with (first | (go_at_call 26; (with_reducible refine (CO.out _).mono ?_); rintro e w3 ⟨rfl, hk3⟩; have K3 := Lib.hid hk3; have hsz3 := hk3.sz; clear hk3) | ((with_reducible show wpList _ _ _ (⟨some 116, _, _, _, _, _⟩ :: _) _ _); refine wpList_append_one (d := 116) _ _ 22 rfl w2.heap.size 33 i0 _ 4 40 Tryd.underlying22 hi hz0 hz1 hz2 rfl (by decide) (.slice ad L.length c) L.length _ (by rfl) _ (own_keep HO.out (K3.out.alloc (.cells #[.int .i64 t0.k, .string t0.text, .int .u64 t0.n, .int .i64 p] 33))) [.int .i64 t0.k, .string t0.text, .int .u64 t0.n, .int .i64 p] _ _ _ (by rfl) (by first | rfl | simp) (by rfl) (by rfl) (by intro u hu; simp at hu; rcases hu with rfl | rfl | rfl | rfl | rfl | rfl | rfl <;> rfl) (by unfold maxLen; omega) (by omega) (by first | omega | (simp; omega)) ?_; intro v1 w1 ho1 hg1; (obtain ⟨u0, u1, u2, u3⟩ := box_tok HO.out K3.out.sz hg1)) | (go_at_call 27; (with_reducible refine (CC.out _).mono ?_); rintro e w5 ⟨rfl, hk5⟩; have K5 := Lib.hid hk5; clear hk5))
            go_roundw
            case rel => exact ⟨p + t0.text.size, L ++ [{ t0 with pos := (p : Int) }], by omega, by go_num, by rw [opB_push], own_keep (own_snoc (t := { t0 with pos := (p : Int) }) ho1) K5.out, ((((HKR.out.trans K3.out).alloc _).alloc _).grown hg1 (own_new HO.out)).trans K5.out, by rw [List.length_append]; show L.length + 1 ≤ 16384; omega, Lib.hid (by rw [if_pos (by omega)]; exact HOUT.out)⟩
            case measure => simp [intOf] <;> omega
        · have qer : (er == 0) = false := beq_eq_false_iff_ne.2 her
          have qer2 : (er != 0) = true := bne_iff_ne.2 her
          have CE := Lib.hid (fun W => c_nextE s p t0 er W hp h HF.out)
          have HER := Lib.hid her
          clear her
          go_wp2_with (first | (go_at_call 26; (with_reducible refine (CE.out _).mono ?_); rintro e w3 ⟨t, en, rfl, hk3⟩; have K3 := Lib.hid hk3; clear hk3))
          go_ret3
          have h1 := HS.out
          rw [if_pos HER.out] at h1
          have hr : r = .error ((p : Int), er) := by rw [← HC2.out, h1]
          rw [hr]
          exact ⟨(K2.out.trans (HKR.out.trans K3.out)).alloc _, rfl⟩
    · have q47 : (b == 47) = false := beq_eq_false_iff_ne.2 hb47
      clear hrf hbb
      by_cases her : er = 0
      · subst her
        have CO := Lib.hid (fun W => c_nextO s p t0 W hp h HF.out)
        by_cases hfull : L.length = 16384
        · have j9 : (L.length : Int) = 16384 := by omega
          go_wp2_with (first | (go_at_call 26; (with_reducible refine (CO.out _).mono ?_); rintro e w3 ⟨rfl, hk3⟩; have K3 := Lib.hid hk3; clear hk3))
          go_ret3
          have h1 := HS.out
          rw [if_neg (by simp), if_pos (by omega)] at h1
          have hr : r = .error ((p : Int), 6) := by rw [← HC2.out, h1]
          rw [hr]
          exact ⟨(K2.out.trans (HKR.out.trans K3.out)).alloc _, rfl⟩
        · have j9 : (L.length : Int) ≠ 16384 := by omega
          have hst := tok_stands hp HF.out
          have hpos := hst.pos
          have hroom := hst.room
          have CC := Lib.hid (fun W => c_closE HF.out (p : Int) W)
          have HOUT := Lib.hid (show scanP s (p + t0.text.size) ((p + t0.text.size : Nat) : Int) (L ++ [{ t0 with pos := (p : Int) }]) = r by have h1 := HS.out; rw [if_neg (by simp), if_neg (by omega)] at h1; rw [← h1]; exact HC2.out)
          clear hst
          go_wp2_with (first | (go_at_call 26; (with_reducible refine (CO.out _).mono ?_); rintro e w3 ⟨rfl, hk3⟩; have K3 := Lib.hid hk3; have hsz3 := hk3.sz; clear hk3) | ((with_reducible show wpList _ _ _ (⟨some 116, _, _, _, _, _⟩ :: _) _ _); refine wpList_append_one (d := 116) _ _ 22 rfl w2.heap.size 33 i0 _ 4 40 Tryd.underlying22 hi hz0 hz1 hz2 rfl (by decide) (.slice ad L.length c) L.length _ (by rfl) _ (own_keep HO.out (K3.out.alloc (.cells #[.int .i64 t0.k, .string t0.text, .int .u64 t0.n, .int .i64 p] 33))) [.int .i64 t0.k, .string t0.text, .int .u64 t0.n, .int .i64 p] _ _ _ (by rfl) (by first | rfl | simp) (by rfl) (by rfl) (by intro u hu; simp at hu; rcases hu with rfl | rfl | rfl | rfl | rfl | rfl | rfl <;> rfl) (by unfold maxLen; omega) (by omega) (by first | omega | (simp; omega)) ?_; intro v1 w1 ho1 hg1; (obtain ⟨u0, u1, u2, u3⟩ := box_tok HO.out K3.out.sz hg1)) | (go_at_call 27; (with_reducible refine (CC.out _).mono ?_); rintro e w5 ⟨rfl, hk5⟩; have K5 := Lib.hid hk5; clear hk5))
          go_roundw
          case rel => exact ⟨p + t0.text.size, L ++ [{ t0 with pos := (p : Int) }], by omega, by go_num, by rw [opB_push], own_keep (own_snoc (t := { t0 with pos := (p : Int) }) ho1) K5.out, ((((HKR.out.trans K3.out).alloc _).alloc _).grown hg1 (own_new HO.out)).trans K5.out, by rw [List.length_append]; show L.length + 1 ≤ 16384; omega, Lib.hid (by rw [if_pos (by omega)]; exact HOUT.out)⟩
          case measure => simp [intOf] <;> omega
      · have qer : (er == 0) = false := beq_eq_false_iff_ne.2 her
        have qer2 : (er != 0) = true := bne_iff_ne.2 her
        have CE := Lib.hid (fun W => c_nextE s p t0 er W hp h HF.out)
        have HER := Lib.hid her
        clear her
        go_wp2_with (first | (go_at_call 26; (with_reducible refine (CE.out _).mono ?_); rintro e w3 ⟨t, en, rfl, hk3⟩; have K3 := Lib.hid hk3; clear hk3))
        go_ret3
        have h1 := HS.out
        rw [if_pos HER.out] at h1
        have hr : r = .error ((p : Int), er) := by rw [← HC2.out, h1]
        rw [hr]
        exact ⟨(K2.out.trans (HKR.out.trans K3.out)).alloc _, rfl⟩
end Go.Proofs.YtjpmgloofcgfnaaDoor

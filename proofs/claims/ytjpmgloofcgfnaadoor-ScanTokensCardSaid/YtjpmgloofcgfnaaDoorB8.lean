/- Tokens of package scan: the plain function. Condition: the library's variables hold what they must. -/
import Derived.Test.YtjpmgloofcgfnaaDoorB7
import Derived.Lib.OthersKept
namespace Go.Proofs.YtjpmgloofcgfnaaDoor
open Go.RowKit
set_option linter.unusedVariables false
set_option linter.unusedSimpArgs false

/-- The tokens from a place on; b: so many characters at most are to come. -/
noncomputable def scanFrom (s : ByteArray) : Nat → Nat → Int → List Tk → Except (Int × Int) (List Tk)
  | 0, _, _, L => (match endV L s.size with | some L' => .ok L' | none => .error (s.size, 6))
  | b + 1, pos, done, L => if pos < s.size then
      (if (pos : Int) < done then scanFrom s b (pos + (Utf8.decode s pos).2) done L
       else match readV s done L pos (Utf8.decode s pos).1 with
        | .ok (d, L') => scanFrom s b (pos + (Utf8.decode s pos).2) d L'
        | .error e => .error (pos, e))
    else (match endV L s.size with | some L' => .ok L' | none => .error (s.size, 6))
/-- The tokens of a text, or the place of its first fault, and which. -/
noncomputable def toksV (s : ByteArray) : Except (Int × Int) (List Tk) :=
  if 65536 < s.size then .error (0, 6) else match badV s with
    | some p => .error (p, 3)
    | none => scanFrom s s.size 0 0 []
/-- What Tokens answers. -/
def ToksP (s : ByteArray) (r : Except (Int × Int) (List Tk)) (w : World) (e : Ending) (w' : World) : Prop :=
  Kp w w' ∧ match r with
  | .ok L => ∃ v, e = .returned (.tuple #[v, .int .i64 0, .int .i64 0]) ∧ w'.ownsRow w.heap.size 33 4 v L.length (tkCells L)
  | .error x => e = .returned (.tuple #[.slice none 0 0, .int .i64 x.1, .int .i64 x.2])
theorem own_base {w : World} {B B' : Nat} {e : TypeId} {m n : Nat} {v : Value} {xs : List Value} (h : w.ownsRow B e m v n xs) (hb : B' ≤ B) : w.ownsRow B' e m v n xs := by
  refine ⟨h.1, ?_⟩
  rcases h.2 with hv | ⟨g, cap, cur, hv, hg0, rest⟩
  · exact .inl hv
  · exact .inr ⟨g, cap, cur, hv, by omega, rest⟩
theorem RS.iterAt {w : World} {rb : Nat} {s : ByteArray} {done : Int} {L : List Tk} {v : Value} (h : RS w rb s done L v) {k pos : Nat} (hk : w.heap[k]? = some (.stringIter s pos)) (p : Nat) : RS (w.iterAt k s p) rb s done L v := by
  have h1 : rb ≠ k := fun e => by have := h.blk; rw [e, hk] at this; cases this
  refine ⟨(Lib.iterAt_other w k rb s p h1).trans h.blk, h.row.1, ?_⟩
  rcases h.row.2 with hv | ⟨g, cap, cur, hv, hg0, hg, rest⟩
  · exact .inl hv
  · have h2 : g ≠ k := fun e => by rw [e, hk] at hg; cases hg
    exact .inr ⟨g, cap, cur, hv, hg0, (Lib.iterAt_other w k g s p h2).trans hg, rest⟩
theorem toks_large (s : ByteArray) (w : World) (h : 65536 < s.size) : Calls Tryd.prog 10 #[.string s] w (ToksP s (toksV s) w) := by
  rw [show toksV s = .error (0, 6) by unfold toksV; rw [if_pos h]]
  have i1 : (65536 : Int) < s.size := by omega
  clear h
  go_enter Tryd.func10, Tryd.ntmps10
  go_wp2_with fail
  go_ret3
  exact ⟨Kp.refl w, rfl⟩
theorem toks_bad (s : ByteArray) (p : Nat) (w : World) (h : s.size ≤ 65536) (hb : badV s = some p) : Calls Tryd.prog 10 #[.string s] w (ToksP s (toksV s) w) := by
  rw [show toksV s = .error (p, 3) by unfold toksV; rw [if_neg (by omega), hb]]
  have i1 : (s.size : Int) ≤ 65536 := by omega
  have HB := Lib.hid hb
  have hs : s.size ≤ 140737488351232 := by omega
  clear h hb
  go_enter Tryd.func10, Tryd.ntmps10
  go_wp2_with (first | (go_at_call 22; (with_reducible refine (c_bad s _ hs).mono ?_); rintro e w2 ⟨rfl, hk2⟩; rw [HB.out, show badI (some p) = (p : Int) from rfl]))
  go_ret3
  exact ⟨hk2, rfl⟩
theorem start_rs (w : World) (s : ByteArray) : RS ((w.alloc (.cells #[.string s, .int .i64 0, .slice none 0 0] 44)).iter s 0) w.heap.size s 0 [] (.slice none 0 0) :=
  RS.keep (w := w.alloc (.cells #[.string s, .int .i64 0, .slice none 0 0] 44)) ⟨heap_alloc_new _ _, World.ownsRow_nil _ _ _ _⟩ ((Kp.refl _).iter _ _)
theorem start_it (w : World) (s : ByteArray) (o : Obj) : ((w.alloc o).iter s 0).heap[w.heap.size + 1]? = some (.stringIter s 0) := by
  have := World.iter_heap (w.alloc o) s 0
  rwa [World.size_alloc] at this
set_option maxHeartbeats 6400000 in
set_option maxRecDepth 100000 in
theorem toks_good (s : ByteArray) (w : World) (h : s.size ≤ 65536) (hb : badV s = none) (he : ErrAt w) (hg : SignsAt w) (hm : MaxAt w) : Calls Tryd.prog 10 #[.string s] w (ToksP s (toksV s) w) := by
  rw [show toksV s = scanFrom s s.size 0 0 [] by unfold toksV; rw [if_neg (by omega), hb]]
  have i1 : (s.size : Int) ≤ 65536 := by omega
  have HB := Lib.hid hb
  have HE := Lib.hid he
  have HG := Lib.hid hg
  have HM := Lib.hid hm
  have hs : s.size ≤ 140737488351232 := by omega
  generalize hv : scanFrom s s.size 0 0 [] = r
  have HV := Lib.hid hv
  clear hb he hg hm hv
  go_enter Tryd.func10, Tryd.ntmps10
  go_wp2_with (first | (go_at_call 22; (with_reducible refine (c_bad s _ hs).mono ?_); rintro e w2 ⟨rfl, hk2⟩; rw [HB.out, show badI none = -1 from rfl]; have K2 := Lib.hid hk2; clear hk2))
  have hsz2 := K2.out.sz
  go_loopw [7] (fun _ wr => ∃ (pos b : Nat) (done : Int) (L : List Tk) (v : Value), RS wr w2.heap.size s done L v ∧ wr.heap[w2.heap.size + 1]? = some (.stringIter s pos) ∧ Kp w wr ∧ Hid (scanFrom s b pos done L = r) ∧ s.size ≤ pos + b ∧ L.length ≤ 16384) (fun _ wr => s.size - wr.iterPos (w2.heap.size + 1))
  case atStart => exact ⟨0, s.size, 0, [], .slice none 0 0, start_rs w2 s, start_it w2 s _, (K2.out.alloc _).iter _ _, HV, by omega, by simp⟩
  case round =>
    obtain ⟨pos, b, done, L, v, hr, hit, hkw, HC, hb, hL⟩ := hrel
    have HR := Lib.hid hr
    have HIT := Lib.hid hit
    have HKW := Lib.hid hkw
    by_cases hp : pos < s.size
    · have hwd := width_pos s pos hp
      obtain ⟨c, hcc⟩ : ∃ c : Int, c = (Utf8.decode s pos).1 := ⟨_, rfl⟩
      obtain ⟨W, hW⟩ : ∃ W, W = wr.iterAt (w2.heap.size + 1) s (pos + (Utf8.decode s pos).2) := ⟨_, rfl⟩
      have hnx : ∀ ty, (Instr.next (.pointer (some ⟨w2.heap.size + 1, 0, none⟩)) true ty).run Tryd.prog wr = .ok (.tuple #[.bool true, .int .i64 pos, .int .i32 c]) W := fun ty => by
        rw [hcc, hW]; exact Lib.run_next_any_at wr (w2.heap.size + 1) s pos ty hit hp
      have HRW : Hid (RS W w2.heap.size s done L v) := Lib.hid (by rw [hW]; exact hr.iterAt hit _)
      have HIW : Hid (W.heap[w2.heap.size + 1]? = some (.stringIter s (pos + (Utf8.decode s pos).2))) := Lib.hid (by rw [hW]; exact Lib.iterAt_heap wr _ s pos _ hit)
      have HKK : Hid (Kp w W) := Lib.hid (by rw [hW]; exact Lib.below_iterAt hkw (by omega) s _)
      have hpos0 : wr.iterPos (w2.heap.size + 1) = pos := by simp only [World.iterPos, hit]
      have HP0 := Lib.hid hpos0
      obtain ⟨c0, c1, c2, cf, hlt⟩ := HRW.out.cellsR
      have hpz : pos ≤ s.size := by omega
      have i2 : (0 : Int) ≤ pos := by omega
      clear hr hit hkw hW hpos0
      by_cases hd : (pos : Int) < done
      · have HN := Lib.hid (show ∃ b', scanFrom s b' (pos + (Utf8.decode s pos).2) done L = r ∧ s.size ≤ pos + (Utf8.decode s pos).2 + b' by
          cases b with
          | zero => omega
          | succ b => exact ⟨b, by have := HC.out; rwa [scanFrom, if_pos hp, if_pos hd] at this, by omega⟩)
        have HWD := Lib.hid hwd
        have HPP := Lib.hid hp
        clear hcc
        go_wp2_with fail
        go_roundw
        case rel => obtain ⟨b', a1, a2⟩ := HN.out; exact ⟨_, b', done, L, v, HRW.out, HIW.out, HKK.out, Lib.hid a1, a2, hL⟩
        case measure => simp only [World.iterPos, HIW.out, HIT.out]; omega
      · have hnd : done ≤ (pos : Int) := by omega
        have HRV : Hid (∃ b', (match readV s done L pos c with | .ok (d, L') => scanFrom s b' (pos + (Utf8.decode s pos).2) d L' | .error e => .error (pos, e)) = r ∧ s.size ≤ pos + (Utf8.decode s pos).2 + b') := Lib.hid (by
          cases b with
          | zero => omega
          | succ b => exact ⟨b, by have := HC.out; rw [scanFrom, if_pos hp, if_neg hd, ← hcc] at this; exact this, by omega⟩)
        clear hcc hd
        cases hrv : readV s done L pos c with
        | ok x =>
          obtain ⟨d, L'⟩ := x
          have HX := Lib.hid hrv
          clear hrv
          go_wp2_with (first | (go_at_call 23; refine (c_read w2.heap.size s done L v pos c W HRW.out (by omega) hpz h (HE.out.keep HKK.out) (HG.out.keep HKK.out) (HM.out.keep HKK.out)).mono ?_; rintro e w4 hq; rw [HX.out] at hq; obtain ⟨rfl, v4, hr4, hg4⟩ := hq; have HR4 := Lib.hid hr4; have HG4 := Lib.hid hg4; clear hr4 hg4))
          have hi4 := (HG4.out.blk (w2.heap.size + 1) (Array.getElem?_eq_some_iff.1 HIW.out).1 (by omega) (.inr (fun ⟨cs, fr, e⟩ => by rw [HIW.out] at e; cases e))).trans HIW.out
          have HI4 := Lib.hid hi4
          clear hi4
          go_roundw
          case rel => obtain ⟨b', a1, a2⟩ := HRV.out; rw [HX.out] at a1; exact ⟨_, b', d, L', v4, HR4.out, HI4.out, HG4.out.kp HKK.out hsz2, Lib.hid a1, a2, readV_len hL HX.out⟩
          case measure => simp only [World.iterPos, HI4.out, HIT.out]; omega
        | error er =>
          have HX := Lib.hid hrv
          clear hrv
          go_wp2_with (first | (go_at_call 23; refine (c_read w2.heap.size s done L v pos c W HRW.out (by omega) hpz h (HE.out.keep HKK.out) (HG.out.keep HKK.out) (HM.out.keep HKK.out)).mono ?_; rintro e w4 hq; rw [HX.out] at hq; obtain ⟨rfl, hne, hg4⟩ := hq; have q5 : (er != 0) = true := bne_iff_ne.2 hne; have HG4 := Lib.hid hg4; clear hg4 hne))
          go_ret3
          obtain ⟨b', a1, _⟩ := HRV.out
          rw [HX.out] at a1
          rw [← a1]
          exact ⟨HG4.out.kp HKK.out hsz2, rfl⟩
    · have hnx : ∀ ty, (Instr.next (.pointer (some ⟨w2.heap.size + 1, 0, none⟩)) true ty).run Tryd.prog wr = _ := fun ty => Lib.run_next_end_at wr (w2.heap.size + 1) s pos ty hit hp
      have HEND : Hid ((match endV L s.size with | some L' => Except.ok L' | none => .error ((s.size : Int), 6)) = r) := Lib.hid (by
        have := HC.out
        cases b with
        | zero => exact this
        | succ b => rw [scanFrom, if_neg hp] at this; exact this)
      clear hr hit hkw
      cases hev : endV L s.size with
      | some L' =>
        have HV2 := Lib.hid hev
        clear hev
        go_wp2_with (first | (go_at_call 24; refine (c_endLine w2.heap.size s done s.size L v wr HR.out (by omega)).mono ?_; rintro e w4 q; obtain ⟨rfl, v', hr', hg'⟩ : e = .returned (.int .i64 0) ∧ ∃ v', RS w4 w2.heap.size s done L' v' ∧ Gt w2.heap.size wr w4 := (by rcases q with ⟨L2, h1, h2, h3⟩ | ⟨h1, _⟩; (· obtain rfl := Option.some.inj (HV2.out.symm.trans h1); exact ⟨h2, h3⟩); (· rw [HV2.out] at h1; cases h1)); obtain ⟨c0, c1, c2, cf, hlt⟩ := hr'.cellsR; have HR4 := Lib.hid hr'; have HG4 := Lib.hid hg'; clear hr' hg'))
        go_ret3
        have a1 := HEND.out
        rw [HV2.out] at a1
        rw [← a1]
        exact ⟨HG4.out.kp HKW.out hsz2, v', rfl, own_base HR4.out.row (by omega)⟩
      | none =>
        have HV2 := Lib.hid hev
        clear hev
        go_wp2_with (first | (go_at_call 24; refine (c_endLine w2.heap.size s done s.size L v wr HR.out (by omega)).mono ?_; rintro e w4 q; obtain ⟨rfl, hg'⟩ : e = .returned (.int .i64 6) ∧ Gt w2.heap.size wr w4 := (by rcases q with ⟨L2, h1, _⟩ | ⟨h1, h2⟩; (· rw [HV2.out] at h1; cases h1); (· exact h2)); have HG4 := Lib.hid hg'; clear hg'))
        go_ret3
        have a1 := HEND.out
        rw [HV2.out] at a1
        rw [← a1]
        exact ⟨HG4.out.kp HKW.out hsz2, rfl⟩
theorem c_Tokens (s : ByteArray) (w : World) (he : ErrAt w) (hg : SignsAt w) (hm : MaxAt w) : Calls Tryd.prog 10 #[.string s] w (ToksP s (toksV s) w) := by
  by_cases h : 65536 < s.size
  · exact toks_large s w h
  · cases hb : badV s with
    | some p => exact toks_bad s p w (by omega) hb
    | none => exact toks_good s w (by omega) hb he hg hm
end Go.Proofs.YtjpmgloofcgfnaaDoor

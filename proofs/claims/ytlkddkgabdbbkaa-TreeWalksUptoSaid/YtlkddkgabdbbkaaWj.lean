/- The law TreeWalks. Condition: the node lies in memory, and has not more nodes than a row may hold. -/
import Derived.Test.YtlkddkgabdbbkaaWg
import Derived.Test.YtlkddkgabdbbkaaWc
import Derived.Test.YtlkddkgabdbbkaaH2
import Derived.Test.YtlkddkgabdbbkaaC2
namespace Go.Proofs.Ytlkddkgabdbbkaa
open Go.RowKit
set_option linter.unusedVariables false
set_option linter.unusedSimpArgs false

def elH (L : List CEl) (i : Nat) : Hn := match L[i]? with | some x => x.2.2 | none => ⟨0, .empty, 0, 0, none, 0, 0⟩
def elD (L : List CEl) (i : Nat) : Int := match L[i]? with | some x => x.1 | none => 0
theorem elH_at {L : List CEl} {i : Nat} {x : CEl} (h : L[i]? = some x) : elH L i = x.2.2 := by unfold elH; rw [h]
theorem elD_at {L : List CEl} {i : Nat} {x : CEl} (h : L[i]? = some x) : elD L i = x.1 := by unfold elD; rw [h]
theorem flat_elH (L : List CEl) : (L.flatMap fun x => x.2.2.cells) = flat (fun i => (elH L i).cells) L.length := by
  rw [flat_take L _ (fun x => x.2.2.cells) (fun i x h => by rw [elH_at h]) L.length (Nat.le_refl _), List.take_length]
theorem flat_elD (L : List CEl) : (L.map fun x => Value.int .i64 x.1) = flat (fun i => [.int .i64 (elD L i)]) L.length := by
  rw [flat_take L _ (fun x => [.int .i64 x.1]) (fun i x h => by rw [elD_at h]) L.length (Nat.le_refl _), List.take_length, List.map_eq_flatMap]
/-- walked's rows as tables. -/
theorem walked_tabs {w : World} {B : Nat} {vn vd : Value} {L : List CEl} (h1 : w.ownsRow B 25 5 vn L.length (L.flatMap fun x => x.2.2.cells)) (h2 : w.ownsRow B 3 1 vd L.length (L.map fun x => .int .i64 x.1)) :
    ∃ an cn ad cd, vn = .slice an L.length cn ∧ vd = .slice ad L.length cd ∧ tab w (From B) 25 an L.length cn 5 (fun i => (elH L i).cells) ∧ tab w (From B) 3 ad L.length cd 1 (fun i => [.int .i64 (elD L i)]) := by
  rw [flat_elH] at h1
  rw [flat_elD] at h2
  obtain ⟨an, cn, e1, _, t1, _⟩ := tab_of_owns h1 (fun _ => rfl)
  obtain ⟨ad, cd, e2, _, t2, _⟩ := tab_of_owns h2 (fun _ => rfl)
  exact ⟨an, cn, ad, cd, e1, e2, t1, t2⟩
set_option maxRecDepth 100000 in
set_option maxHeartbeats 8000000 in
theorem law_TreeWalks (r : Nat) (T : Nd) (h : Hn) (w : World) (hl : Lies w A0 r T h) (hN : sizeN r T ≤ 1048576) : Calls Try.prog 6 #[h.val] w fun e w' => e = .returned (.bool true) ∧ Kp w w' := by
  have FL := Lib.hid (fun (W : World) (hk : Kp w W) => c_Flat0 r T h W (hl.keep hk) (by omega))
  have WA := Lib.hid (fun (W : World) (hk : Kp w W) (N : Nat) (hN' : (flatN r 0 T).length = N) => (hN' ▸ callsIn_wide.1 (c_walked 4 (by omega) r T h W (hl.keep hk) (by rw [flat_size]; omega)) : Calls Try.prog 23 #[h.val, .int .i64 (N : Nat)] W _))
  clear hl
  obtain ⟨k, tx, nn, at_, la, ll, lc⟩ := h
  go_enter Try.func6, Try.ntmps6
  go_wp2_with (first | (go_at_call 22; (with_reducible refine (FL.out _ ((Kp.refl w).alloc _)).mono ?_); rintro e w1 ⟨vn, vd, ys, rfl, hys, hfs, hk1⟩; obtain ⟨an, cn, ad, cd, rfl, rfl, ta, td⟩ := hfs.tabs; have hyl : (flatN r 0 T).length = ys.length := by { rw [← hys, List.length_map] }; obtain ⟨b0, b1, b2, b3, b4, bs⟩ := boxed (w := w) (h := ⟨k, tx, nn, at_, la, ll, lc⟩) hk1; simp only at b0 b1 b2 b3 b4; have HK1 := Lib.hid ((Kp.back hk1 ((Kp.refl w).alloc _))); have HKB := Lib.hid hk1; have HTA := Lib.hid ta; have HTD := Lib.hid td; have HYS := Lib.hid hys; clear hk1 ta td hys hfs) | (go_at_call 23; refine (WA.out _ HK1.out _ hyl).mono ?_; rintro e w2 ⟨vn2, vd2, xs, rfl, hxs, rN, rD, hli, hk2⟩; obtain ⟨an2, cn2, ad2, cd2, rfl, rfl, tn, tt⟩ := walked_tabs rN rD; have hxl : xs.length = ys.length := by { rw [← hyl, ← hxs, List.length_map] }; have HK2 := Lib.hid hk2; have HTN := Lib.hid tn; have HTT := Lib.hid tt; have HXS := Lib.hid hxs; have HLI := Lib.hid hli; clear tn tt hxs hli hk2 rN rD) | (go_at_call 12; refine (c_answers _).mono ?_; rintro e w3 ⟨rfl, hk3⟩))
  have HK3 := Lib.hid hk3
  clear hk3
  have hys2 : ys.length ≤ 1048576 := by rw [← hyl, flat_size]; exact hN
  go_loopw [8] (fun i wr => ∃ n : Nat, n ≤ ys.length ∧ i = .int .i64 n ∧ Kp w3 wr) (fun i _ => ys.length - (intOf i).toNat)
  case atStart => exact ⟨0, by omega, rfl, Kp.refl _⟩
  case round =>
    obtain ⟨n, hn, rfl, hkr⟩ := hrel
    have HKR := Lib.hid hkr
    clear hkr
    by_cases hlt : n < ys.length
    · obtain ⟨y, hy⟩ : ∃ y, ys[n]? = some y := ⟨_, List.getElem?_eq_getElem hlt⟩
      obtain ⟨x, hx⟩ : ∃ x, xs[n]? = some x := ⟨_, List.getElem?_eq_getElem (by omega)⟩
      have epr : Item.pr y = CEl.pr x := by
        have h9 : (ys.map Item.pr)[n]? = (xs.map CEl.pr)[n]? := by rw [HYS.out, HXS.out]
        rw [List.getElem?_map, List.getElem?_map, hy, hx] at h9
        exact Option.some.inj h9
      have e1 : y.1.1 = x.1 := (Prod.mk.inj (show (y.1.1, y.1.2.1) = (x.1, x.2.1) from epr)).1
      have e2 : y.1.2.1 = x.2.1 := (Prod.mk.inj (show (y.1.1, y.1.2.1) = (x.1, x.2.1) from epr)).2
      have KW2 := Lib.hid (HK3.out.trans HKR.out)
      have KW1 := Lib.hid (HK2.out.trans KW2.out)
      obtain ⟨bA, oA, rfl, rA⟩ := HTA.out.at (by omega)
      obtain ⟨bD, oD, rfl, rDD⟩ := HTD.out.at (by omega)
      obtain ⟨bN, oN, rfl, rNN⟩ := HTN.out.at (by omega)
      obtain ⟨bT, oT, rfl, rTT⟩ := HTT.out.at (by omega)
      have cD := (KW1.out.range (rDD n hlt)) 0 _ rfl
      have cT := (KW2.out.range (rTT n (by omega))) 0 _ rfl
      rw [itD_at hy, e1] at cD
      rw [elD_at hx] at cT
      simp only [Nat.mul_one, Nat.add_zero] at cD cT
      have LA := Lib.hid (y.2.1.keep (HKB.out.trans KW1.out))
      have LB := Lib.hid ((HLI.out x (List.mem_of_getElem? hx)).keep KW2.out)
      have hxlt : n < xs.length := by omega
      have LA2 : Hid (Lies wr _ r x.2.1 (itH ys n)) := Lib.hid (by rw [itH_at hy, ← e2]; exact LA.out)
      have LB2 : Hid (Lies wr _ r x.2.1 (elH xs n)) := Lib.hid (by rw [elH_at hx]; exact LB.out)
      have j1 : (0 : Int) ≤ n := by omega
      have j2 : (n : Int) < ys.length := by omega
      have RA := Lib.hid (rA n hlt)
      have RN := Lib.hid (rNN n hxlt)
      clear rA rNN rDD rTT hy hx epr e1 e2
      obtain ⟨x0, x1, x2, x3, x4⟩ := node_at (KW1.out.range RA.out)
      obtain ⟨y0, y1, y2, y3, y4⟩ := node_at (KW2.out.range RN.out)
      have j3 : (n : Int) < xs.length := by omega
      have CX := Lib.hid (c_rExact (LA2.out.keep (Kp.refl wr).drew) (LB2.out.keep (Kp.refl wr).drew))
      go_wp2_with fail
      go_region_held3 (fun w' => w'.cell? ⟨bD, oD + n, none⟩ = some (.int .i64 x.1) ∧ w'.cell? ⟨bT, oT + n, none⟩ = some (.int .i64 x.1) ∧ w'.cell? ⟨bA, oA + n * 5, none⟩ = some (.int .i64 (itH ys n).k) ∧ w'.cell? ⟨bA, oA + n * 5 + 1, none⟩ = some (.string (itH ys n).tx) ∧ w'.cell? ⟨bA, oA + n * 5 + 2, none⟩ = some (.int .u64 (itH ys n).n) ∧ w'.cell? ⟨bA, oA + n * 5 + 3, none⟩ = some (.int .i64 (itH ys n).at_) ∧ w'.cell? ⟨bA, oA + n * 5 + 4, none⟩ = some (.slice (itH ys n).la (itH ys n).ll (itH ys n).lc) ∧ w'.cell? ⟨bN, oN + n * 5, none⟩ = some (.int .i64 (elH xs n).k) ∧ w'.cell? ⟨bN, oN + n * 5 + 1, none⟩ = some (.string (elH xs n).tx) ∧ w'.cell? ⟨bN, oN + n * 5 + 2, none⟩ = some (.int .u64 (elH xs n).n) ∧ w'.cell? ⟨bN, oN + n * 5 + 3, none⟩ = some (.int .i64 (elH xs n).at_) ∧ w'.cell? ⟨bN, oN + n * 5 + 4, none⟩ = some (.slice (elH xs n).la (elH xs n).ll (elH xs n).lc))
        (first | exact ⟨cD, cT, x0, x1, x2, x3, x4, y0, y1, y2, y3, y4⟩ | exact ⟨hk5.cellv cD, hk5.cellv cT, hk5.cellv x0, hk5.cellv x1, hk5.cellv x2, hk5.cellv x3, hk5.cellv x4, hk5.cellv y0, hk5.cellv y1, hk5.cellv y2, hk5.cellv y3, hk5.cellv y4⟩)
        ((first | (go_at_call 24; (with_reducible refine CX.out.mono ?_); rintro e w5 ⟨rfl, hk5⟩)))
      go_wp2_with fail
      go_roundw
      case rel => exact ⟨n + 1, by omega, by go_num, (HKR.out.trans (Kp.refl wr).drew).trans hk5⟩
      case measure => simp [intOf]; omega
    · obtain rfl : n = ys.length := by omega
      go_wp2_with fail
      go_ret
      exact ⟨rfl, HK1.out.trans (HK2.out.trans (HK3.out.trans HKR.out))⟩
end Go.Proofs.Ytlkddkgabdbbkaa

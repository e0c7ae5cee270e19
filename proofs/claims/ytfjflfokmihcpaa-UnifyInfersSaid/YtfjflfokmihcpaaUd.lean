/- The fields of the matcher (matcher$1): names, and types one after the other. Condition: both rows lie in memory, outside the map. -/
import Derived.Test.YtfjflfokmihcpaaUc
namespace Go.Proofs.Ytfjflfokmihcpaa
open Go.RowKit
set_option linter.unusedVariables false
set_option linter.unusedSimpArgs false
/-- What is asked of fields. -/
def fieldsV (f : St → Ty → Ty → Option St) (σ : St) (na nb : List ByteArray) (la lb : List Ty) : Option St := if na = nb then walkK f σ la lb else none
theorem fieldsV_ne {f : St → Ty → Ty → Option St} {σ : St} {na nb : List ByteArray} {la lb : List Ty} {n : Nat} (h : na.getD n ByteArray.empty ≠ nb.getD n ByteArray.empty) : fieldsV f σ na nb la lb = none := if_neg (fun e => h (by rw [e]))
set_option maxHeartbeats 1600000 in
theorem fields_ne (bm bM : Nat) (L : List ByteArray) (f : St → Ty → Ty → Option St) (σ : St) (na nb : List ByteArray) (la lb : List Ty) (aa ab : Option Addr) (ca cb : Nat) (w : World) (h : na.length ≠ nb.length) :
    Calls Try.prog 49 #[.slice aa na.length ca, .slice ab nb.length cb, .pointer (some ⟨bM, 0, none⟩)] w (MP bm L (fieldsV f σ na nb la lb) w) := by
  have HN := Lib.hid (show fieldsV f σ na nb la lb = none from if_neg (fun e => h (by rw [e])))
  have hne : ((na.length : Int) != (nb.length : Int)) = true := by simp; omega
  clear h
  go_enter Try.func49, Try.ntmps49
  go_wp2_with fail
  go_ret
  exact ⟨Mk.refl _ _, .inl ⟨HN.out, rfl⟩⟩
set_option maxHeartbeats 6400000 in
set_option maxRecDepth 100000 in
theorem c_fieldsU (bm bs bM bF bL : Nat) (L : List ByteArray) (r R R' : Nat) (ih : IHm bm bs bM bF bL L r R R') (σ : St) (na nb : List ByteArray) (la lb : List Ty) (hla : la.length = na.length) (hlb : lb.length = nb.length) (aa ab : Option Addr) (ca cb : Nat) (K J : Nat → Hd) (w : World) (hE : EnvM bm bs bM bF bL w)
    (hA : tab w (Off bm) 52 aa na.length ca 7 (fun i => .string (na.getD i ByteArray.empty) :: (K i).cells)) (hA2 : ∀ (i : Nat) (X : Ty), la[i]? = some X → Lies w (Off bm) R X (K i))
    (hB : tab w (Off bm) 52 ab nb.length cb 7 (fun i => .string (nb.getD i ByteArray.empty) :: (J i).cells)) (hB2 : ∀ (i : Nat) (X : Ty), lb[i]? = some X → Lies w (Off bm) R' X (J i))
    (sa : ∀ (i : Nat) (X : Ty), la[i]? = some X → (look r X).2.2 = true) (sb : ∀ (i : Nat) (X : Ty), lb[i]? = some X → (look r X).2.2 = true) (hn1 : la.length ≤ 17) (hbm : bm < w.heap.size) (st : StM bm L σ w) :
    Calls Try.prog 49 #[.slice aa na.length ca, .slice ab nb.length cb, .pointer (some ⟨bM, 0, none⟩)] w (MP bm L (fieldsV (mtch L r) σ na nb la lb) w) := by
  by_cases hlen : na.length = nb.length
  case neg => exact fields_ne bm bM L _ σ na nb la lb aa ab ca cb w hlen
  have IH := Lib.hid ih
  have HE := Lib.hid hE
  have HA0 := Lib.hid hA
  have HA2 := Lib.hid hA2
  have HB0 := Lib.hid hB
  have HB2 := Lib.hid hB2
  have SA := Lib.hid sa
  have SB := Lib.hid sb
  have ST := Lib.hid st
  have NM := Lib.hid hE.nM
  have hle : na.length ≤ nb.length := by omega
  have hle' : nb.length ≤ na.length := by omega
  have hne : ((na.length : Int) != (nb.length : Int)) = false := by simp; omega
  have HLEN := Lib.hid hlen
  clear ih hE hA hB hA2 hB2 sa sb st hlen
  go_enter Try.func49, Try.ntmps49
  go_wp2_with fail
  go_loopw [15] (fun i wr => ∃ n : Nat, n ≤ na.length ∧ i = .int .i64 n ∧ Mk bm w wr ∧ (∀ i, i < n → na.getD i ByteArray.empty = nb.getD i ByteArray.empty) ∧ ∃ σn, walkK (mtch L r) σ (la.take n) (lb.take n) = some σn ∧ StM bm L σn wr) (fun i _ => na.length - (intOf i).toNat)
  case atStart => exact ⟨0, by omega, rfl, Mk.refl _ _, fun i hi => absurd hi (by omega), σ, rfl, ST.out⟩
  case round =>
    obtain ⟨n, hn, rfl, hkr, hsame, σn, hw, hst⟩ := hrel
    have HKR := Lib.hid hkr
    have HSAME := Lib.hid hsame
    have HW := Lib.hid hw
    have HST := Lib.hid hst
    have hwr : w.heap.size ≤ wr.heap.size := hkr.sz
    clear hkr hw hst hsame
    by_cases hlt : n < na.length
    · have hltB : n < nb.length := by omega
      obtain ⟨b, o, ha, _, _, hr⟩ := (HA0.out.mk HKR.out).atS (by omega)
      obtain ⟨tb, to, hb, hS, htl, hrb⟩ := (HB0.out.mk HKR.out).atS (by omega)
      subst hb
      obtain ⟨sx, hsx⟩ : ∃ sx, na.getD n ByteArray.empty = sx := ⟨_, rfl⟩
      obtain ⟨sy, hsy⟩ : ∃ sy, nb.getD n ByteArray.empty = sy := ⟨_, rfl⟩
      have hr1 := hr n hlt
      have hrb1 := hrb n hltB
      simp only [hsx] at hr1
      simp only [hsy] at hrb1
      have HSX := Lib.hid hsx
      have HSY := Lib.hid hsy
      have HA := Lib.hid ha
      have HR := Lib.hid hr1
      have HRB := Lib.hid hrb1
      have NT := Lib.hid (show tb ≠ bm from hS)
      have NW := Lib.hid (show wr.heap.size ≠ bm by omega)
      clear ha hr hrb hS hr1 hrb1 hsx hsy
      obtain ⟨X, hX⟩ : ∃ X, la[n]? = some X := ⟨_, List.getElem?_eq_getElem (by omega)⟩
      obtain ⟨Y, hY⟩ : ∃ Y, lb[n]? = some Y := ⟨_, List.getElem?_eq_getElem (by omega)⟩
      have HX := Lib.hid hX
      have HY := Lib.hid hY
      clear hX hY
      have KB := Lib.hid ((Kp.refl wr).alloc (.cells #[.string sx, .int .i64 (K n).k, .string (K n).nm, .int .i64 (K n).con, .slice (K n).fa (K n).fl (K n).fc, .slice (K n).la (K n).ll (K n).lc, .slice (K n).ra (K n).rl (K n).rc] 52))
      have a0 : (wr.alloc (.cells #[.string sx, .int .i64 (K n).k, .string (K n).nm, .int .i64 (K n).con, .slice (K n).fa (K n).fl (K n).fc, .slice (K n).la (K n).ll (K n).lc, .slice (K n).ra (K n).rl (K n).rc] 52)).cell? ⟨bM, 0, none⟩ = some (.func (.func 51) #[] #[.pointer (some ⟨bs, 0, none⟩), .pointer (some ⟨bF, 0, none⟩), .pointer (some ⟨bL, 0, none⟩)]) := KB.out.cellv (HE.out.turn HKR.out).cM
      have x0 : (wr.alloc (.cells #[.string sx, .int .i64 (K n).k, .string (K n).nm, .int .i64 (K n).con, .slice (K n).fa (K n).fl (K n).fc, .slice (K n).la (K n).ll (K n).lc, .slice (K n).ra (K n).rl (K n).rc] 52)).cell? ⟨wr.heap.size, 0, none⟩ = some (.string sx) := by rw [cell_of_row _ _ _ _ _ _ (heap_alloc_new wr _)]; rfl
      have x1 : (wr.alloc (.cells #[.string sx, .int .i64 (K n).k, .string (K n).nm, .int .i64 (K n).con, .slice (K n).fa (K n).fl (K n).fc, .slice (K n).la (K n).ll (K n).lc, .slice (K n).ra (K n).rl (K n).rc] 52)).cell? ⟨wr.heap.size, 1, none⟩ = some (.int .i64 (K n).k) := by rw [cell_of_row _ _ _ _ _ _ (heap_alloc_new wr _)]; rfl
      have x2 : (wr.alloc (.cells #[.string sx, .int .i64 (K n).k, .string (K n).nm, .int .i64 (K n).con, .slice (K n).fa (K n).fl (K n).fc, .slice (K n).la (K n).ll (K n).lc, .slice (K n).ra (K n).rl (K n).rc] 52)).cell? ⟨wr.heap.size, 2, none⟩ = some (.string (K n).nm) := by rw [cell_of_row _ _ _ _ _ _ (heap_alloc_new wr _)]; rfl
      have x3 : (wr.alloc (.cells #[.string sx, .int .i64 (K n).k, .string (K n).nm, .int .i64 (K n).con, .slice (K n).fa (K n).fl (K n).fc, .slice (K n).la (K n).ll (K n).lc, .slice (K n).ra (K n).rl (K n).rc] 52)).cell? ⟨wr.heap.size, 3, none⟩ = some (.int .i64 (K n).con) := by rw [cell_of_row _ _ _ _ _ _ (heap_alloc_new wr _)]; rfl
      have x4 : (wr.alloc (.cells #[.string sx, .int .i64 (K n).k, .string (K n).nm, .int .i64 (K n).con, .slice (K n).fa (K n).fl (K n).fc, .slice (K n).la (K n).ll (K n).lc, .slice (K n).ra (K n).rl (K n).rc] 52)).cell? ⟨wr.heap.size, 4, none⟩ = some (.slice (K n).fa (K n).fl (K n).fc) := by rw [cell_of_row _ _ _ _ _ _ (heap_alloc_new wr _)]; rfl
      have x5 : (wr.alloc (.cells #[.string sx, .int .i64 (K n).k, .string (K n).nm, .int .i64 (K n).con, .slice (K n).fa (K n).fl (K n).fc, .slice (K n).la (K n).ll (K n).lc, .slice (K n).ra (K n).rl (K n).rc] 52)).cell? ⟨wr.heap.size, 5, none⟩ = some (.slice (K n).la (K n).ll (K n).lc) := by rw [cell_of_row _ _ _ _ _ _ (heap_alloc_new wr _)]; rfl
      have x6 : (wr.alloc (.cells #[.string sx, .int .i64 (K n).k, .string (K n).nm, .int .i64 (K n).con, .slice (K n).fa (K n).fl (K n).fc, .slice (K n).la (K n).ll (K n).lc, .slice (K n).ra (K n).rl (K n).rc] 52)).cell? ⟨wr.heap.size, 6, none⟩ = some (.slice (K n).ra (K n).rl (K n).rc) := by rw [cell_of_row _ _ _ _ _ _ (heap_alloc_new wr _)]; rfl
      have y0 : (wr.alloc (.cells #[.string sx, .int .i64 (K n).k, .string (K n).nm, .int .i64 (K n).con, .slice (K n).fa (K n).fl (K n).fc, .slice (K n).la (K n).ll (K n).lc, .slice (K n).ra (K n).rl (K n).rc] 52)).cell? ⟨tb, to + n * 7, none⟩ = some (.string sy) := KB.out.cellv (rangeAt_head HRB.out)
      have y1 : (wr.alloc (.cells #[.string sx, .int .i64 (K n).k, .string (K n).nm, .int .i64 (K n).con, .slice (K n).fa (K n).fl (K n).fc, .slice (K n).la (K n).ll (K n).lc, .slice (K n).ra (K n).rl (K n).rc] 52)).cell? ⟨tb, to + n * 7 + 1, none⟩ = some (.int .i64 (J n).k) := KB.out.cellv (rangeAt_tail HRB.out 0 _ rfl)
      have y2 : (wr.alloc (.cells #[.string sx, .int .i64 (K n).k, .string (K n).nm, .int .i64 (K n).con, .slice (K n).fa (K n).fl (K n).fc, .slice (K n).la (K n).ll (K n).lc, .slice (K n).ra (K n).rl (K n).rc] 52)).cell? ⟨tb, to + n * 7 + 1 + 1, none⟩ = some (.string (J n).nm) := KB.out.cellv (rangeAt_tail HRB.out 1 _ rfl)
      have y3 : (wr.alloc (.cells #[.string sx, .int .i64 (K n).k, .string (K n).nm, .int .i64 (K n).con, .slice (K n).fa (K n).fl (K n).fc, .slice (K n).la (K n).ll (K n).lc, .slice (K n).ra (K n).rl (K n).rc] 52)).cell? ⟨tb, to + n * 7 + 1 + 2, none⟩ = some (.int .i64 (J n).con) := KB.out.cellv (rangeAt_tail HRB.out 2 _ rfl)
      have y4 : (wr.alloc (.cells #[.string sx, .int .i64 (K n).k, .string (K n).nm, .int .i64 (K n).con, .slice (K n).fa (K n).fl (K n).fc, .slice (K n).la (K n).ll (K n).lc, .slice (K n).ra (K n).rl (K n).rc] 52)).cell? ⟨tb, to + n * 7 + 1 + 3, none⟩ = some (.slice (J n).fa (J n).fl (J n).fc) := KB.out.cellv (rangeAt_tail HRB.out 3 _ rfl)
      have y5 : (wr.alloc (.cells #[.string sx, .int .i64 (K n).k, .string (K n).nm, .int .i64 (K n).con, .slice (K n).fa (K n).fl (K n).fc, .slice (K n).la (K n).ll (K n).lc, .slice (K n).ra (K n).rl (K n).rc] 52)).cell? ⟨tb, to + n * 7 + 1 + 4, none⟩ = some (.slice (J n).la (J n).ll (J n).lc) := KB.out.cellv (rangeAt_tail HRB.out 4 _ rfl)
      have y6 : (wr.alloc (.cells #[.string sx, .int .i64 (K n).k, .string (K n).nm, .int .i64 (K n).con, .slice (K n).fa (K n).fl (K n).fc, .slice (K n).la (K n).ll (K n).lc, .slice (K n).ra (K n).rl (K n).rc] 52)).cell? ⟨tb, to + n * 7 + 1 + 5, none⟩ = some (.slice (J n).ra (J n).rl (J n).rc) := KB.out.cellv (rangeAt_tail HRB.out 5 _ rfl)
      have j1 : (0 : Int) ≤ n := by omega
      have j2 : (n : Int) < nb.length := by omega
      by_cases hxy : sx = sy
      case neg =>
        have HN := Lib.hid (fieldsV_ne (f := mtch L r) (σ := σ) (la := la) (lb := lb) (n := n) (by rw [HSX.out, HSY.out]; exact hxy) : fieldsV (mtch L r) σ na nb la lb = none)
        have t1 : (sx.toList == sy.toList) = false := (same_or sx sy).elim (fun q => absurd q.1 hxy) (fun q => q.2)
        have t2 : (sx.toList != sy.toList) = true := by simpa [bne] using t1
        clear hxy
        go_wp2_with (first | ((with_reducible show wpList _ _ _ (⟨some 18, _, _, _, _, _⟩ :: _) _ _); refine wpList_index_tab (d := 18) _ _ _ rfl 52 Try.underlying40 7 rfl _ _ _ _ o (by rfl) HA.out n (by rfl) hlt ?_) | ((with_reducible show wpList _ _ _ (⟨some 19, _, _, _, _, _⟩ :: _) _ _); refine wpList_load_fd (d := 19) _ _ rfl _ Try.underlying52 wr _ _ b (o + n * 7) (by rfl) rfl (by first | rfl | omega) sx (K n) HR.out (Kp.refl _) rfl ?_))
        refine wp_region_held_drew (S := (fun w' => w'.cell? ⟨bM, 0, none⟩ = some (.func (.func 51) #[] #[.pointer (some ⟨bs, 0, none⟩), .pointer (some ⟨bF, 0, none⟩), .pointer (some ⟨bL, 0, none⟩)]) ∧ w'.cell? ⟨wr.heap.size, 0, none⟩ = some (.string sx) ∧ w'.cell? ⟨wr.heap.size, 1, none⟩ = some (.int .i64 (K n).k) ∧ w'.cell? ⟨wr.heap.size, 2, none⟩ = some (.string (K n).nm) ∧ w'.cell? ⟨wr.heap.size, 3, none⟩ = some (.int .i64 (K n).con) ∧ w'.cell? ⟨wr.heap.size, 4, none⟩ = some (.slice (K n).fa (K n).fl (K n).fc) ∧ w'.cell? ⟨wr.heap.size, 5, none⟩ = some (.slice (K n).la (K n).ll (K n).lc) ∧ w'.cell? ⟨wr.heap.size, 6, none⟩ = some (.slice (K n).ra (K n).rl (K n).rc) ∧ w'.cell? ⟨tb, to + n * 7, none⟩ = some (.string sy) ∧ w'.cell? ⟨tb, to + n * 7 + 1, none⟩ = some (.int .i64 (J n).k) ∧ w'.cell? ⟨tb, to + n * 7 + 1 + 1, none⟩ = some (.string (J n).nm) ∧ w'.cell? ⟨tb, to + n * 7 + 1 + 2, none⟩ = some (.int .i64 (J n).con) ∧ w'.cell? ⟨tb, to + n * 7 + 1 + 3, none⟩ = some (.slice (J n).fa (J n).fl (J n).fc) ∧ w'.cell? ⟨tb, to + n * 7 + 1 + 4, none⟩ = some (.slice (J n).la (J n).ll (J n).lc) ∧ w'.cell? ⟨tb, to + n * 7 + 1 + 5, none⟩ = some (.slice (J n).ra (J n).rl (J n).rc))) (by kernel_rfl) (by exact ⟨a0, x0, x1, x2, x3, x4, x5, x6, y0, y1, y2, y3, y4, y5, y6⟩) (fun hHeld0 => ?_)
        refine wpAnyH_take (i := 0) (oi := { dst := some 20, op := Op.fieldAddr 52 (Operand.tmp 7) 0, type := 0, pos := "unify.go:75", after := #[], guard := none }) (v := ?_) rfl (by kernel_rfl) (by kernel_rfl) (by kernel_rfl) (fun _ _ _ h => h) (Or.inl ⟨by rfl, ?_⟩) (by assumption) ?_
        rotate_left
        · (intro wz hSw; (try dsimp only at hSw); go_simp; first | done | with_reducible rfl)
        try simp only [Act.put, List.setIfInBounds_toArray, List.set_cons_zero, List.set_cons_succ]
        refine wpAnyH_take (i := 1) (oi := { dst := some 21, op := Op.load 9 (Operand.tmp 20), type := 9, pos := "unify.go:75", after := #[{ on := 0, ground := Ground.data }], guard := none }) (v := ?_) rfl (by kernel_rfl) (by kernel_rfl) (by kernel_rfl) (fun _ _ _ h => h) (Or.inl ⟨by rfl, ?_⟩) (by assumption) ?_
        rotate_left
        · (intro wz hSw; (try dsimp only at hSw); go_simp; first | done | with_reducible rfl)
        try simp only [Act.put, List.setIfInBounds_toArray, List.set_cons_zero, List.set_cons_succ]
        refine wpAnyH_take (i := 2) (oi := { dst := some 22, op := Op.move (Operand.tmp 1), type := 40, pos := "unify.go:75", after := #[], guard := none }) (v := ?_) rfl (by kernel_rfl) (by kernel_rfl) (by kernel_rfl) (fun _ _ _ h => h) (Or.inl ⟨by rfl, ?_⟩) (by assumption) ?_
        rotate_left
        · (intro wz hSw; (try dsimp only at hSw); go_simp; first | done | with_reducible rfl)
        try simp only [Act.put, List.setIfInBounds_toArray, List.set_cons_zero, List.set_cons_succ]
        refine wpAnyH_take (i := 3) (oi := { dst := some 23, op := Op.move (Operand.tmp 6), type := 3, pos := "unify.go:75", after := #[], guard := none }) (v := ?_) rfl (by kernel_rfl) (by kernel_rfl) (by kernel_rfl) (fun _ _ _ h => h) (Or.inl ⟨by rfl, ?_⟩) (by assumption) ?_
        rotate_left
        · (intro wz hSw; (try dsimp only at hSw); go_simp; first | done | with_reducible rfl)
        try simp only [Act.put, List.setIfInBounds_toArray, List.set_cons_zero, List.set_cons_succ]
        refine wpAnyH_take (i := 4) (oi := { dst := some 24, op := Op.indexAddr 40 (Operand.tmp 22) (Operand.tmp 23), type := 0, pos := "unify.go:75", after := #[{ on := 2, ground := Ground.data }, { on := 3, ground := Ground.data }], guard := none }) (v := ?_) rfl (by kernel_rfl) (by kernel_rfl) (by kernel_rfl) (fun _ _ _ h => h) (Or.inl ⟨by rfl, ?_⟩) (by assumption) ?_
        rotate_left
        · (intro wz hSw; (try dsimp only at hSw); go_simp; first | done | with_reducible rfl)
        try simp only [Act.put, List.setIfInBounds_toArray, List.set_cons_zero, List.set_cons_succ]
        refine wpAnyH_take (i := 5) (oi := { dst := some 25, op := Op.fieldAddr 52 (Operand.tmp 24) 0, type := 0, pos := "unify.go:75", after := #[{ on := 4, ground := Ground.data }], guard := none }) (v := ?_) rfl (by kernel_rfl) (by kernel_rfl) (by kernel_rfl) (fun _ _ _ h => h) (Or.inl ⟨by rfl, ?_⟩) (by assumption) ?_
        rotate_left
        · (intro wz hSw; (try dsimp only at hSw); go_simp; first | done | with_reducible rfl)
        try simp only [Act.put, List.setIfInBounds_toArray, List.set_cons_zero, List.set_cons_succ]
        refine wpAnyH_take (i := 6) (oi := { dst := some 26, op := Op.load 9 (Operand.tmp 25), type := 9, pos := "unify.go:75", after := #[{ on := 5, ground := Ground.data }], guard := none }) (v := ?_) rfl (by kernel_rfl) (by kernel_rfl) (by kernel_rfl) (fun _ _ _ h => h) (Or.inl ⟨by rfl, ?_⟩) (by assumption) ?_
        rotate_left
        · (intro wz hSw; (try dsimp only at hSw); go_simp; first | done | with_reducible rfl)
        try simp only [Act.put, List.setIfInBounds_toArray, List.set_cons_zero, List.set_cons_succ]
        refine wpAnyH_take (i := 7) (oi := { dst := some 27, op := Op.binOp BinOp.neq 9 (Operand.tmp 21) (Operand.tmp 26) 9, type := 4, pos := "unify.go:75", after := #[{ on := 1, ground := Ground.data }, { on := 6, ground := Ground.data }], guard := none }) (v := ?_) rfl (by kernel_rfl) (by kernel_rfl) (by kernel_rfl) (fun _ _ _ h => h) (Or.inl ⟨by rfl, ?_⟩) (by assumption) ?_
        rotate_left
        · (intro wz hSw; (try dsimp only at hSw); go_simp; first | done | with_reducible rfl)
        try simp only [Act.put, List.setIfInBounds_toArray, List.set_cons_zero, List.set_cons_succ]
        refine wpAnyH_take (i := 8) (oi := { dst := some 28, op := Op.move (Operand.tmp 27), type := 4, pos := "unify.go:75", after := #[{ on := 7, ground := Ground.data }], guard := none }) (v := ?_) rfl (by kernel_rfl) (by kernel_rfl) (by kernel_rfl) (fun _ _ _ h => h) (Or.inl ⟨by rfl, ?_⟩) (by assumption) ?_
        rotate_left
        · (intro wz hSw; (try dsimp only at hSw); go_simp; first | done | with_reducible rfl)
        try simp only [Act.put, List.setIfInBounds_toArray, List.set_cons_zero, List.set_cons_succ]
        refine wpAnyH_take (i := 9) (oi := { dst := some 29, op := Op.load 48 (Operand.tmp 2), type := 48, pos := "unify.go:75", after := #[{ on := 8, ground := Ground.guard }], guard := some (8, false) }) (v := undef) rfl (by kernel_rfl) (by kernel_rfl) (by kernel_rfl) (fun _ _ _ h => h) (Or.inr ⟨by rfl, rfl⟩) (by assumption) ?_
        try simp only [Act.put, List.setIfInBounds_toArray, List.set_cons_zero, List.set_cons_succ]
        refine wpAnyH_take (i := 10) (oi := { dst := some 30, op := Op.fieldAddr 52 (Operand.tmp 7) 1, type := 0, pos := "unify.go:75", after := #[{ on := 8, ground := Ground.guard }], guard := some (8, false) }) (v := undef) rfl (by kernel_rfl) (by kernel_rfl) (by kernel_rfl) (fun _ _ _ h => h) (Or.inr ⟨by rfl, rfl⟩) (by assumption) ?_
        try simp only [Act.put, List.setIfInBounds_toArray, List.set_cons_zero, List.set_cons_succ]
        refine wpAnyH_take (i := 11) (oi := { dst := some 31, op := Op.load 42 (Operand.tmp 30), type := 42, pos := "unify.go:75", after := #[{ on := 10, ground := Ground.data }, { on := 8, ground := Ground.guard }], guard := some (8, false) }) (v := undef) rfl (by kernel_rfl) (by kernel_rfl) (by kernel_rfl) (fun _ _ _ h => h) (Or.inr ⟨by rfl, rfl⟩) (by assumption) ?_
        try simp only [Act.put, List.setIfInBounds_toArray, List.set_cons_zero, List.set_cons_succ]
        refine wpAnyH_take (i := 12) (oi := { dst := some 32, op := Op.move (Operand.tmp 1), type := 40, pos := "unify.go:75", after := #[{ on := 8, ground := Ground.guard }], guard := some (8, false) }) (v := undef) rfl (by kernel_rfl) (by kernel_rfl) (by kernel_rfl) (fun _ _ _ h => h) (Or.inr ⟨by rfl, rfl⟩) (by assumption) ?_
        try simp only [Act.put, List.setIfInBounds_toArray, List.set_cons_zero, List.set_cons_succ]
        refine wpAnyH_take (i := 13) (oi := { dst := some 33, op := Op.move (Operand.tmp 6), type := 3, pos := "unify.go:75", after := #[{ on := 8, ground := Ground.guard }], guard := some (8, false) }) (v := undef) rfl (by kernel_rfl) (by kernel_rfl) (by kernel_rfl) (fun _ _ _ h => h) (Or.inr ⟨by rfl, rfl⟩) (by assumption) ?_
        try simp only [Act.put, List.setIfInBounds_toArray, List.set_cons_zero, List.set_cons_succ]
        refine wpAnyH_take (i := 14) (oi := { dst := some 34, op := Op.indexAddr 40 (Operand.tmp 32) (Operand.tmp 33), type := 0, pos := "unify.go:75", after := #[{ on := 12, ground := Ground.data }, { on := 13, ground := Ground.data }, { on := 8, ground := Ground.guard }], guard := some (8, false) }) (v := undef) rfl (by kernel_rfl) (by kernel_rfl) (by kernel_rfl) (fun _ _ _ h => h) (Or.inr ⟨by rfl, rfl⟩) (by assumption) ?_
        try simp only [Act.put, List.setIfInBounds_toArray, List.set_cons_zero, List.set_cons_succ]
        refine wpAnyH_take (i := 15) (oi := { dst := some 35, op := Op.fieldAddr 52 (Operand.tmp 34) 1, type := 0, pos := "unify.go:75", after := #[{ on := 14, ground := Ground.data }, { on := 8, ground := Ground.guard }], guard := some (8, false) }) (v := undef) rfl (by kernel_rfl) (by kernel_rfl) (by kernel_rfl) (fun _ _ _ h => h) (Or.inr ⟨by rfl, rfl⟩) (by assumption) ?_
        try simp only [Act.put, List.setIfInBounds_toArray, List.set_cons_zero, List.set_cons_succ]
        refine wpAnyH_take (i := 16) (oi := { dst := some 36, op := Op.load 42 (Operand.tmp 35), type := 42, pos := "unify.go:75", after := #[{ on := 15, ground := Ground.data }, { on := 8, ground := Ground.guard }], guard := some (8, false) }) (v := undef) rfl (by kernel_rfl) (by kernel_rfl) (by kernel_rfl) (fun _ _ _ h => h) (Or.inr ⟨by rfl, rfl⟩) (by assumption) ?_
        try simp only [Act.put, List.setIfInBounds_toArray, List.set_cons_zero, List.set_cons_succ]
        refine wpAnyH_take (i := 17) (oi := { dst := some 37, op := Op.call { callee := Callee.value (Operand.tmp 29), args := #[Operand.tmp 31, Operand.tmp 36], argTypes := #[42, 42] }, type := 4, pos := "unify.go:75", after := #[{ on := 9, ground := Ground.data }, { on := 11, ground := Ground.data }, { on := 16, ground := Ground.data }, { on := 8, ground := Ground.chain }, { on := 8, ground := Ground.guard }], guard := some (8, false) }) (v := undef) rfl (by kernel_rfl) (by kernel_rfl) (by kernel_rfl) (fun _ _ _ h => h) (Or.inr ⟨by rfl, rfl⟩) (by assumption) ?_
        try simp only [Act.put, List.setIfInBounds_toArray, List.set_cons_zero, List.set_cons_succ]
        refine wpAnyH_take (i := 18) (oi := { dst := some 38, op := Op.unOp UnOp.not 4 (Operand.tmp 37), type := 4, pos := "unify.go:75", after := #[{ on := 17, ground := Ground.data }, { on := 8, ground := Ground.guard }], guard := some (8, false) }) (v := undef) rfl (by kernel_rfl) (by kernel_rfl) (by kernel_rfl) (fun _ _ _ h => h) (Or.inr ⟨by rfl, rfl⟩) (by assumption) ?_
        try simp only [Act.put, List.setIfInBounds_toArray, List.set_cons_zero, List.set_cons_succ]
        refine wpAnyH_take (i := 19) (oi := { dst := some 39, op := Op.pick (Operand.tmp 28) (Operand.const (Value.bool true)) (Operand.tmp 38), type := 4, pos := "unify.go:75", after := #[{ on := 8, ground := Ground.data }, { on := 18, ground := Ground.data }], guard := none }) (v := ?_) rfl (by kernel_rfl) (by kernel_rfl) (by kernel_rfl) (fun _ _ _ h => h) (Or.inl ⟨by rfl, ?_⟩) (by assumption) ?_
        rotate_left
        · (intro wz hSw; (try dsimp only at hSw); go_simp; first | done | with_reducible rfl)
        try simp only [Act.put, List.setIfInBounds_toArray, List.set_cons_zero, List.set_cons_succ]
        refine wpAnyH_done (by kernel_rfl) ?_ _
        go_wp2_with fail
        go_ret
        exact ⟨HKR.out.trans KB.out.drew.mk, .inl ⟨HN.out, rfl⟩⟩
      have CX := Lib.hid (IH.out X Y (K n) (J n) σn (wr.alloc (.cells #[.string sx, .int .i64 (K n).k, .string (K n).nm, .int .i64 (K n).con, .slice (K n).fa (K n).fl (K n).fc, .slice (K n).la (K n).ll (K n).lc, .slice (K n).ra (K n).rl (K n).rc] 52)).drew (HE.out.turn (HKR.out.trans KB.out.drew.mk)) ((HA2.out n X HX.out).mk (HKR.out.trans KB.out.drew.mk)) ((HB2.out n Y HY.out).mk (HKR.out.trans KB.out.drew.mk)) (SA.out n X HX.out) (SB.out n Y HY.out) (HST.out.keep KB.out.drew))
      have HXY := Lib.hid hxy
      have t1 : (sx.toList == sy.toList) = true := by (rw [hxy]; simp)
      have t2 : (sx.toList != sy.toList) = false := by (rw [hxy]; simp)
      clear hxy
      cases c2 : mtch L r σn X Y with
      | none =>
        have HN := Lib.hid (show fieldsV (mtch L r) σ na nb la lb = none by
          have e := walkK_stop (f := mtch L r) (σ := σ) (us := la) (vs := lb) (n := n + 1) (by rw [walkK_succ HX.out HY.out, HW.out]; exact c2) (by omega) (by omega)
          unfold fieldsV
          rw [e, ite_self])
        have C2 := Lib.hid c2
        clear c2
        go_wp2_with (first | ((with_reducible show wpList _ _ _ (⟨some 18, _, _, _, _, _⟩ :: _) _ _); refine wpList_index_tab (d := 18) _ _ _ rfl 52 Try.underlying40 7 rfl _ _ _ _ o (by rfl) HA.out n (by rfl) hlt ?_) | ((with_reducible show wpList _ _ _ (⟨some 19, _, _, _, _, _⟩ :: _) _ _); refine wpList_load_fd (d := 19) _ _ rfl _ Try.underlying52 wr _ _ b (o + n * 7) (by rfl) rfl (by first | rfl | omega) sx (K n) HR.out (Kp.refl _) rfl ?_))
        go_region_held3 (fun w' => w'.cell? ⟨bM, 0, none⟩ = some (.func (.func 51) #[] #[.pointer (some ⟨bs, 0, none⟩), .pointer (some ⟨bF, 0, none⟩), .pointer (some ⟨bL, 0, none⟩)]) ∧ w'.cell? ⟨wr.heap.size, 0, none⟩ = some (.string sx) ∧ w'.cell? ⟨wr.heap.size, 1, none⟩ = some (.int .i64 (K n).k) ∧ w'.cell? ⟨wr.heap.size, 2, none⟩ = some (.string (K n).nm) ∧ w'.cell? ⟨wr.heap.size, 3, none⟩ = some (.int .i64 (K n).con) ∧ w'.cell? ⟨wr.heap.size, 4, none⟩ = some (.slice (K n).fa (K n).fl (K n).fc) ∧ w'.cell? ⟨wr.heap.size, 5, none⟩ = some (.slice (K n).la (K n).ll (K n).lc) ∧ w'.cell? ⟨wr.heap.size, 6, none⟩ = some (.slice (K n).ra (K n).rl (K n).rc) ∧ w'.cell? ⟨tb, to + n * 7, none⟩ = some (.string sy) ∧ w'.cell? ⟨tb, to + n * 7 + 1, none⟩ = some (.int .i64 (J n).k) ∧ w'.cell? ⟨tb, to + n * 7 + 1 + 1, none⟩ = some (.string (J n).nm) ∧ w'.cell? ⟨tb, to + n * 7 + 1 + 2, none⟩ = some (.int .i64 (J n).con) ∧ w'.cell? ⟨tb, to + n * 7 + 1 + 3, none⟩ = some (.slice (J n).fa (J n).fl (J n).fc) ∧ w'.cell? ⟨tb, to + n * 7 + 1 + 4, none⟩ = some (.slice (J n).la (J n).ll (J n).lc) ∧ w'.cell? ⟨tb, to + n * 7 + 1 + 5, none⟩ = some (.slice (J n).ra (J n).rl (J n).rc))
          (first | exact ⟨a0, x0, x1, x2, x3, x4, x5, x6, y0, y1, y2, y3, y4, y5, y6⟩ | exact ⟨hk6.cellv a0 NM.out, hk6.cellv x0 NW.out, hk6.cellv x1 NW.out, hk6.cellv x2 NW.out, hk6.cellv x3 NW.out, hk6.cellv x4 NW.out, hk6.cellv x5 NW.out, hk6.cellv x6 NW.out, hk6.cellv y0 NT.out, hk6.cellv y1 NT.out, hk6.cellv y2 NT.out, hk6.cellv y3 NT.out, hk6.cellv y4 NT.out, hk6.cellv y5 NT.out, hk6.cellv y6 NT.out⟩)
          ((first | (go_at_call 51; refine CX.out.mono ?_; intro e w6 hp6; obtain ⟨he6, hk6⟩ := hp6.no C2.out; subst he6)))
        go_wp2_with fail
        go_ret
        exact ⟨HKR.out.trans (KB.out.drew.mk.trans hk6), .inl ⟨HN.out, rfl⟩⟩
      | some σ2 =>
        have HN := Lib.hid (show walkK (mtch L r) σ (la.take (n + 1)) (lb.take (n + 1)) = some σ2 by rw [walkK_succ HX.out HY.out, HW.out]; exact c2)
        have C2 := Lib.hid c2
        clear c2
        go_wp2_with (first | ((with_reducible show wpList _ _ _ (⟨some 18, _, _, _, _, _⟩ :: _) _ _); refine wpList_index_tab (d := 18) _ _ _ rfl 52 Try.underlying40 7 rfl _ _ _ _ o (by rfl) HA.out n (by rfl) hlt ?_) | ((with_reducible show wpList _ _ _ (⟨some 19, _, _, _, _, _⟩ :: _) _ _); refine wpList_load_fd (d := 19) _ _ rfl _ Try.underlying52 wr _ _ b (o + n * 7) (by rfl) rfl (by first | rfl | omega) sx (K n) HR.out (Kp.refl _) rfl ?_))
        go_region_held3 (fun w' => w'.cell? ⟨bM, 0, none⟩ = some (.func (.func 51) #[] #[.pointer (some ⟨bs, 0, none⟩), .pointer (some ⟨bF, 0, none⟩), .pointer (some ⟨bL, 0, none⟩)]) ∧ w'.cell? ⟨wr.heap.size, 0, none⟩ = some (.string sx) ∧ w'.cell? ⟨wr.heap.size, 1, none⟩ = some (.int .i64 (K n).k) ∧ w'.cell? ⟨wr.heap.size, 2, none⟩ = some (.string (K n).nm) ∧ w'.cell? ⟨wr.heap.size, 3, none⟩ = some (.int .i64 (K n).con) ∧ w'.cell? ⟨wr.heap.size, 4, none⟩ = some (.slice (K n).fa (K n).fl (K n).fc) ∧ w'.cell? ⟨wr.heap.size, 5, none⟩ = some (.slice (K n).la (K n).ll (K n).lc) ∧ w'.cell? ⟨wr.heap.size, 6, none⟩ = some (.slice (K n).ra (K n).rl (K n).rc) ∧ w'.cell? ⟨tb, to + n * 7, none⟩ = some (.string sy) ∧ w'.cell? ⟨tb, to + n * 7 + 1, none⟩ = some (.int .i64 (J n).k) ∧ w'.cell? ⟨tb, to + n * 7 + 1 + 1, none⟩ = some (.string (J n).nm) ∧ w'.cell? ⟨tb, to + n * 7 + 1 + 2, none⟩ = some (.int .i64 (J n).con) ∧ w'.cell? ⟨tb, to + n * 7 + 1 + 3, none⟩ = some (.slice (J n).fa (J n).fl (J n).fc) ∧ w'.cell? ⟨tb, to + n * 7 + 1 + 4, none⟩ = some (.slice (J n).la (J n).ll (J n).lc) ∧ w'.cell? ⟨tb, to + n * 7 + 1 + 5, none⟩ = some (.slice (J n).ra (J n).rl (J n).rc))
          (first | exact ⟨a0, x0, x1, x2, x3, x4, x5, x6, y0, y1, y2, y3, y4, y5, y6⟩ | exact ⟨hk6.cellv a0 NM.out, hk6.cellv x0 NW.out, hk6.cellv x1 NW.out, hk6.cellv x2 NW.out, hk6.cellv x3 NW.out, hk6.cellv x4 NW.out, hk6.cellv x5 NW.out, hk6.cellv x6 NW.out, hk6.cellv y0 NT.out, hk6.cellv y1 NT.out, hk6.cellv y2 NT.out, hk6.cellv y3 NT.out, hk6.cellv y4 NT.out, hk6.cellv y5 NT.out, hk6.cellv y6 NT.out⟩)
          ((first | (go_at_call 51; refine CX.out.mono ?_; intro e w6 hp6; obtain ⟨he6, hk6, hs6⟩ := hp6.yes C2.out; subst he6; have HS6 := Lib.hid hs6; clear hs6)))
        go_wp2_with fail
        go_roundw
        case rel => exact ⟨n + 1, by omega, by go_num, HKR.out.trans (KB.out.drew.mk.trans hk6), fun i hi => by
          by_cases e : i = n
          · subst e; rw [HSX.out, HSY.out, HXY.out]
          · exact HSAME.out i (by omega), σ2, HN.out, HS6.out⟩
        case measure => simp [intOf]; omega
    · have hz : ¬ ((n : Int) < (na.length : Int)) := by omega
      obtain rfl : n = na.length := by omega
      have HN := Lib.hid (show fieldsV (mtch L r) σ na nb la lb = some σn by
        have e : na = nb := fn_ext HLEN.out (fun i hi => by have := HSAME.out i hi; exact this)
        unfold fieldsV
        rw [if_pos e]
        have q := HW.out
        rwa [List.take_of_length_le (by omega), List.take_of_length_le (by omega)] at q)
      go_wp2_with fail
      go_ret
      exact ⟨HKR.out, .inr ⟨σn, HN.out, rfl, HST.out⟩⟩
end Go.Proofs.Ytfjflfokmihcpaa

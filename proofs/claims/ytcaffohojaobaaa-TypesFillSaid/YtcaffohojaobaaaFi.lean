/- Twice of the reference. Condition: the names lie in memory. -/
import Derived.Test.YtcaffohojaobaaaFh
import Derived.Deep.RegionHeld3
import Derived.IntWalk
namespace Go.Proofs.Ytcaffohojaobaaa
open Go.RowKit
set_option linter.unusedVariables false
set_option linter.unusedSimpArgs false
set_option maxHeartbeats 1600000 in
set_option maxRecDepth 100000 in
theorem c_Twice (L : List ByteArray) (ad : Option Addr) (c : Nat) (S : Sel) (w : World) (ht : tab w S 9 ad L.length c 1 (fun i => [.string (fnS L i)])) (hb : L.length * 16 ≤ 140737488351232) (hlc : L.length ≤ c) (hfr : ¬ S.fresh) :
    Calls Try.prog 32 #[.slice ad L.length c] w fun e w' => e = .returned (.bool (twiceB L)) ∧ Kp w w' := by
  have HT := Lib.hid ht
  clear ht
  go_enter Try.func32, Try.ntmps32
  go_wp2_with fail
  go_loopw [3] (fun i wr => ∃ n : Nat, n ≤ L.length ∧ i = .int .i64 n ∧ Kp w wr ∧ (∀ j, j < n → fnS L j ∉ L.drop (j + 1))) (fun i _ => L.length - (intOf i).toNat)
  case atStart => exact ⟨0, Nat.zero_le _, rfl, Kp.refl _, fun j hj => absurd hj (by omega)⟩
  case round =>
    obtain ⟨n, hn, rfl, hk, hno⟩ := hrel
    have HK := Lib.hid hk
    have HNO := Lib.hid hno
    clear hk hno
    by_cases hlt : n < L.length
    · obtain ⟨b, o, ha, hr⟩ := HT.out.at (by omega)
      subst ha
      obtain ⟨sn, hsn⟩ : ∃ sn, fnS L n = sn := ⟨_, rfl⟩
      have hcs : wr.cell? ⟨b, o + n, none⟩ = some (.string sn) := by
        have := (HK.out.range (hr n hlt)) 0 (.string sn) (by rw [hsn]; rfl)
        simpa using this
      have hi1 : ∀ W, (Instr.indexAt 41 (.slice (some ⟨b, o, none⟩) L.length c) (.int .i64 (n : Nat))).run Try.prog W = .ok (.pointer (some ⟨b, o + n, none⟩)) W := fun W => by have := run_index_tabF (w := W) (b := b) (o := o) (c := c) Try.underlying41 (m := 1) (by kernel_rfl) hlt; rwa [Nat.mul_one] at this
      obtain ⟨sa, hsa⟩ : ∃ sa : Option Addr, (if c = n + 1 then some ⟨b, o, none⟩ else some ⟨b, o + (n + 1), none⟩) = sa := ⟨_, rfl⟩
      obtain ⟨cc, hcc⟩ : ∃ cc, c - (n + 1) = cc := ⟨_, rfl⟩
      have hta : tab w S 9 sa (L.drop (n + 1)).length cc 1 (fun i => [.string (fnS (L.drop (n + 1)) i)]) := by
        subst hsa
        refine ⟨fun h => ?_, fun hp => ?_⟩
        · split at h <;> cases h
        · rw [List.length_drop] at hp
          have hc : ¬ c = n + 1 := by omega
          rw [if_neg hc]
          obtain ⟨b', o', e, hB, hbl, hf, hr'⟩ := HT.out.2 (by omega)
          cases e
          refine ⟨b, o + (n + 1), rfl, hB, hbl, fun h0 => absurd h0 hfr, fun i hi => ?_⟩
          rw [List.length_drop] at hi
          have := hr' (n + 1 + i) (by omega)
          simp only [Nat.mul_one] at this ⊢
          have e2 : fnS (L.drop (n + 1)) i = fnS L (n + 1 + i) := by
            unfold fnS
            rw [List.getD_eq_getElem?_getD, List.getD_eq_getElem?_getD, List.getElem?_drop]
          rw [e2, show o + (n + 1) + i = o + (n + 1 + i) by omega]
          exact this
      have HTA := Lib.hid hta
      have HSN := Lib.hid hsn
      have hb1 : (0 : Int) ≤ n := by omega
      have hb2 : (n : Int) < 9000000000000 := by omega
      have CH := Lib.hid (fun (W : World) (hk : Kp w W) => c_has W S sa cc (L.drop (n + 1)) sn (hta.keep hk) (by rw [List.length_drop]; omega))
      rw [List.length_drop] at CH
      obtain ⟨dl, hdl⟩ : ∃ dl, L.length - (n + 1) = dl := ⟨_, rfl⟩
      rw [hdl] at CH
      have hw1 : IntKind.i64.wrap ((n : Int) + 1) = (n : Int) + 1 := IntWalk.i64_in _ (by omega)
      have hw2 : ((n : Int) + 1).toNat = n + 1 := by omega
      have hw3 : (0 : Int) ≤ (n : Int) + 1 := by omega
      have hw4 : (n : Int) + 1 ≤ (L.length : Int) := by omega
      have hw5 : (0 : Int) ≤ n := by omega
      have hw6 : (n : Int) < (L.length : Int) := by omega
      clear hta hsn hr hb1 hb2 HTA
      cases hh : hasB (L.drop (n + 1)) sn with
      | false =>
        have HH := Lib.hid hh
        clear hh
        go_wp2_with fail
        refine wp_region_held_drew (S := (fun w' : World => w'.cell? ⟨b, o + n, none⟩ = some (.string sn))) (by kernel_rfl) (hcs) (fun hHeld0 => ?_)
        refine wpAnyH_take (i := 0) (oi := { dst := some 10, op := Op.move (Operand.tmp 0), type := 41, pos := "ref.go:200", after := #[], guard := none }) (v := ?_) rfl (by kernel_rfl) (by kernel_rfl) (by kernel_rfl) (fun _ _ _ h => h) (Or.inl ⟨by rfl, ?_⟩) (by assumption) ?_
        rotate_left
        · (intro wz hSw; (try dsimp only at hSw); go_simp; first | done | with_reducible rfl)
        try simp only [Act.put, List.setIfInBounds_toArray, List.set_cons_zero, List.set_cons_succ]
        refine wpAnyH_take (i := 1) (oi := { dst := some 11, op := Op.move (Operand.tmp 3), type := 3, pos := "ref.go:200", after := #[], guard := none }) (v := ?_) rfl (by kernel_rfl) (by kernel_rfl) (by kernel_rfl) (fun _ _ _ h => h) (Or.inl ⟨by rfl, ?_⟩) (by assumption) ?_
        rotate_left
        · (intro wz hSw; (try dsimp only at hSw); go_simp; first | done | with_reducible rfl)
        try simp only [Act.put, List.setIfInBounds_toArray, List.set_cons_zero, List.set_cons_succ]
        refine wpAnyH_take (i := 2) (oi := { dst := some 12, op := Op.binOp BinOp.add 3 (Operand.tmp 11) (Operand.const (Value.int IntKind.i64 1)) 3, type := 3, pos := "ref.go:200", after := #[{ on := 1, ground := Ground.data }], guard := none }) (v := ?_) rfl (by kernel_rfl) (by kernel_rfl) (by kernel_rfl) (fun _ _ _ h => h) (Or.inl ⟨by rfl, ?_⟩) (by assumption) ?_
        rotate_left
        · (intro wz hSw; (try dsimp only at hSw); go_simp; first | done | with_reducible rfl)
        try simp only [Act.put, List.setIfInBounds_toArray, List.set_cons_zero, List.set_cons_succ]
        refine wpAnyH_take (i := 3) (oi := { dst := some 13, op := Op.slice 41 (Operand.tmp 10) (some (Operand.tmp 12)) none none, type := 41, pos := "ref.go:200", after := #[{ on := 0, ground := Ground.data }, { on := 2, ground := Ground.data }], guard := none }) (v := ?_) rfl (by kernel_rfl) (by kernel_rfl) (by kernel_rfl) (fun _ _ _ h => h) (Or.inl ⟨by rfl, ?_⟩) (by assumption) ?_
        rotate_left
        · (intro wz hSw; (try dsimp only at hSw); go_simp; first | done | with_reducible rfl)
        try simp only [Act.put, List.setIfInBounds_toArray, List.set_cons_zero, List.set_cons_succ]
        refine wpAnyH_take (i := 4) (oi := { dst := some 14, op := Op.move (Operand.tmp 0), type := 41, pos := "ref.go:200", after := #[], guard := none }) (v := ?_) rfl (by kernel_rfl) (by kernel_rfl) (by kernel_rfl) (fun _ _ _ h => h) (Or.inl ⟨by rfl, ?_⟩) (by assumption) ?_
        rotate_left
        · (intro wz hSw; (try dsimp only at hSw); go_simp; first | done | with_reducible rfl)
        try simp only [Act.put, List.setIfInBounds_toArray, List.set_cons_zero, List.set_cons_succ]
        refine wpAnyH_take (i := 5) (oi := { dst := some 15, op := Op.move (Operand.tmp 3), type := 3, pos := "ref.go:200", after := #[], guard := none }) (v := ?_) rfl (by kernel_rfl) (by kernel_rfl) (by kernel_rfl) (fun _ _ _ h => h) (Or.inl ⟨by rfl, ?_⟩) (by assumption) ?_
        rotate_left
        · (intro wz hSw; (try dsimp only at hSw); go_simp; first | done | with_reducible rfl)
        try simp only [Act.put, List.setIfInBounds_toArray, List.set_cons_zero, List.set_cons_succ]
        refine wpAnyH_take (i := 6) (oi := { dst := some 16, op := Op.indexAddr 41 (Operand.tmp 14) (Operand.tmp 15), type := 0, pos := "ref.go:200", after := #[{ on := 4, ground := Ground.data }, { on := 5, ground := Ground.data }], guard := none }) (v := ?_) rfl (by kernel_rfl) (by kernel_rfl) (by kernel_rfl) (fun _ _ _ h => h) (Or.inl ⟨by rfl, ?_⟩) (by assumption) ?_
        rotate_left
        · (intro wz hSw; (try dsimp only at hSw); go_simp; first | done | with_reducible rfl)
        try simp only [Act.put, List.setIfInBounds_toArray, List.set_cons_zero, List.set_cons_succ]
        refine wpAnyH_take (i := 7) (oi := { dst := some 17, op := Op.load 9 (Operand.tmp 16), type := 9, pos := "ref.go:200", after := #[{ on := 6, ground := Ground.data }], guard := none }) (v := ?_) rfl (by kernel_rfl) (by kernel_rfl) (by kernel_rfl) (fun _ _ _ h => h) (Or.inl ⟨by rfl, ?_⟩) (by assumption) ?_
        rotate_left
        · (intro wz hSw; (try dsimp only at hSw); go_simp; first | done | with_reducible rfl)
        try simp only [Act.put, List.setIfInBounds_toArray, List.set_cons_zero, List.set_cons_succ]
        refine wpAnyH_ready (rs := [8]) (by kernel_rfl) (by simp) ?_
        refine AllReadyH.cons (o := { dst := some 18, op := Op.call { callee := Callee.value (Operand.func 47), args := #[Operand.tmp 13, Operand.tmp 17], argTypes := #[41, 9] }, type := 4, pos := "ref.go:200", after := #[{ on := 3, ground := Ground.data }, { on := 7, ground := Ground.data }], guard := none }) rfl (fun Kw hKw => ?_) AllReadyH.nil
        go_simp
        go_at_call 47
        refine (CH.out _ (HK.out.drew)).mono ?_
        rintro e w1 ⟨rfl, hk1⟩
        rw [HH.out]
        go_wp2_with fail
        refine hKw.out _ _ ((((Kp.refl wr).drew).trans hk1).cellv hcs) (fun hHeld1 => ?_)
        clear hKw Kw hHeld0
        try simp only [Act.put, List.setIfInBounds_toArray, List.set_cons_zero, List.set_cons_succ]
        refine wpAnyH_done (by kernel_rfl) ?_ _
        clear hw1 hw2 hw3 hw4 hw5 hw6 hsa hcc hdl
        go_wp2_with fail
        go_roundw
        case rel => exact ⟨n + 1, by omega, by go_num, HK.out.trans (((Kp.refl wr).drew).trans hk1), fun j hj hm => by
          by_cases hjn : j < n
          · exact HNO.out j hjn hm
          · obtain rfl : n = j := by omega
            rw [HSN.out] at hm
            have := hasB_yes hm
            rw [HH.out] at this
            cases this⟩
        case measure => simp [intOf]; omega
      | true =>
        have HH := Lib.hid hh
        clear hh
        go_wp2_with fail
        refine wp_region_held_drew (S := (fun w' : World => w'.cell? ⟨b, o + n, none⟩ = some (.string sn))) (by kernel_rfl) (hcs) (fun hHeld0 => ?_)
        refine wpAnyH_take (i := 0) (oi := { dst := some 10, op := Op.move (Operand.tmp 0), type := 41, pos := "ref.go:200", after := #[], guard := none }) (v := ?_) rfl (by kernel_rfl) (by kernel_rfl) (by kernel_rfl) (fun _ _ _ h => h) (Or.inl ⟨by rfl, ?_⟩) (by assumption) ?_
        rotate_left
        · (intro wz hSw; (try dsimp only at hSw); go_simp; first | done | with_reducible rfl)
        try simp only [Act.put, List.setIfInBounds_toArray, List.set_cons_zero, List.set_cons_succ]
        refine wpAnyH_take (i := 1) (oi := { dst := some 11, op := Op.move (Operand.tmp 3), type := 3, pos := "ref.go:200", after := #[], guard := none }) (v := ?_) rfl (by kernel_rfl) (by kernel_rfl) (by kernel_rfl) (fun _ _ _ h => h) (Or.inl ⟨by rfl, ?_⟩) (by assumption) ?_
        rotate_left
        · (intro wz hSw; (try dsimp only at hSw); go_simp; first | done | with_reducible rfl)
        try simp only [Act.put, List.setIfInBounds_toArray, List.set_cons_zero, List.set_cons_succ]
        refine wpAnyH_take (i := 2) (oi := { dst := some 12, op := Op.binOp BinOp.add 3 (Operand.tmp 11) (Operand.const (Value.int IntKind.i64 1)) 3, type := 3, pos := "ref.go:200", after := #[{ on := 1, ground := Ground.data }], guard := none }) (v := ?_) rfl (by kernel_rfl) (by kernel_rfl) (by kernel_rfl) (fun _ _ _ h => h) (Or.inl ⟨by rfl, ?_⟩) (by assumption) ?_
        rotate_left
        · (intro wz hSw; (try dsimp only at hSw); go_simp; first | done | with_reducible rfl)
        try simp only [Act.put, List.setIfInBounds_toArray, List.set_cons_zero, List.set_cons_succ]
        refine wpAnyH_take (i := 3) (oi := { dst := some 13, op := Op.slice 41 (Operand.tmp 10) (some (Operand.tmp 12)) none none, type := 41, pos := "ref.go:200", after := #[{ on := 0, ground := Ground.data }, { on := 2, ground := Ground.data }], guard := none }) (v := ?_) rfl (by kernel_rfl) (by kernel_rfl) (by kernel_rfl) (fun _ _ _ h => h) (Or.inl ⟨by rfl, ?_⟩) (by assumption) ?_
        rotate_left
        · (intro wz hSw; (try dsimp only at hSw); go_simp; first | done | with_reducible rfl)
        try simp only [Act.put, List.setIfInBounds_toArray, List.set_cons_zero, List.set_cons_succ]
        refine wpAnyH_take (i := 4) (oi := { dst := some 14, op := Op.move (Operand.tmp 0), type := 41, pos := "ref.go:200", after := #[], guard := none }) (v := ?_) rfl (by kernel_rfl) (by kernel_rfl) (by kernel_rfl) (fun _ _ _ h => h) (Or.inl ⟨by rfl, ?_⟩) (by assumption) ?_
        rotate_left
        · (intro wz hSw; (try dsimp only at hSw); go_simp; first | done | with_reducible rfl)
        try simp only [Act.put, List.setIfInBounds_toArray, List.set_cons_zero, List.set_cons_succ]
        refine wpAnyH_take (i := 5) (oi := { dst := some 15, op := Op.move (Operand.tmp 3), type := 3, pos := "ref.go:200", after := #[], guard := none }) (v := ?_) rfl (by kernel_rfl) (by kernel_rfl) (by kernel_rfl) (fun _ _ _ h => h) (Or.inl ⟨by rfl, ?_⟩) (by assumption) ?_
        rotate_left
        · (intro wz hSw; (try dsimp only at hSw); go_simp; first | done | with_reducible rfl)
        try simp only [Act.put, List.setIfInBounds_toArray, List.set_cons_zero, List.set_cons_succ]
        refine wpAnyH_take (i := 6) (oi := { dst := some 16, op := Op.indexAddr 41 (Operand.tmp 14) (Operand.tmp 15), type := 0, pos := "ref.go:200", after := #[{ on := 4, ground := Ground.data }, { on := 5, ground := Ground.data }], guard := none }) (v := ?_) rfl (by kernel_rfl) (by kernel_rfl) (by kernel_rfl) (fun _ _ _ h => h) (Or.inl ⟨by rfl, ?_⟩) (by assumption) ?_
        rotate_left
        · (intro wz hSw; (try dsimp only at hSw); go_simp; first | done | with_reducible rfl)
        try simp only [Act.put, List.setIfInBounds_toArray, List.set_cons_zero, List.set_cons_succ]
        refine wpAnyH_take (i := 7) (oi := { dst := some 17, op := Op.load 9 (Operand.tmp 16), type := 9, pos := "ref.go:200", after := #[{ on := 6, ground := Ground.data }], guard := none }) (v := ?_) rfl (by kernel_rfl) (by kernel_rfl) (by kernel_rfl) (fun _ _ _ h => h) (Or.inl ⟨by rfl, ?_⟩) (by assumption) ?_
        rotate_left
        · (intro wz hSw; (try dsimp only at hSw); go_simp; first | done | with_reducible rfl)
        try simp only [Act.put, List.setIfInBounds_toArray, List.set_cons_zero, List.set_cons_succ]
        refine wpAnyH_ready (rs := [8]) (by kernel_rfl) (by simp) ?_
        refine AllReadyH.cons (o := { dst := some 18, op := Op.call { callee := Callee.value (Operand.func 47), args := #[Operand.tmp 13, Operand.tmp 17], argTypes := #[41, 9] }, type := 4, pos := "ref.go:200", after := #[{ on := 3, ground := Ground.data }, { on := 7, ground := Ground.data }], guard := none }) rfl (fun Kw hKw => ?_) AllReadyH.nil
        go_simp
        go_at_call 47
        refine (CH.out _ (HK.out.drew)).mono ?_
        rintro e w1 ⟨rfl, hk1⟩
        rw [HH.out]
        go_wp2_with fail
        refine hKw.out _ _ ((((Kp.refl wr).drew).trans hk1).cellv hcs) (fun hHeld1 => ?_)
        clear hKw Kw hHeld0
        try simp only [Act.put, List.setIfInBounds_toArray, List.set_cons_zero, List.set_cons_succ]
        refine wpAnyH_done (by kernel_rfl) ?_ _
        have hd : twiceB L = true := twiceB_yes (fun hnd => by
          have := drop_nodup hnd n hlt
          apply this
          have hs : L.getD n ByteArray.empty = sn := HSN.out
          rw [hs]
          apply Classical.byContradiction
          intro hm
          have h2 := hasB_no hm
          rw [HH.out] at h2
          cases h2)
        clear hw1 hw2 hw3 hw4 hw5 hw6 hsa hcc hdl
        go_wp2_with fail
        go_ret
        exact ⟨by rw [hd]; rfl, HK.out.trans (((Kp.refl wr).drew).trans hk1)⟩
    · have hd : twiceB L = false := twiceB_no (nodup_drop (fun i hi => HNO.out i (by omega)))
      obtain rfl : n = L.length := by omega
      have HD := Lib.hid hd
      clear hd
      go_wp2_with fail
      go_ret
      exact ⟨by rw [HD.out]; rfl, HK.out⟩
end Go.Proofs.Ytcaffohojaobaaa

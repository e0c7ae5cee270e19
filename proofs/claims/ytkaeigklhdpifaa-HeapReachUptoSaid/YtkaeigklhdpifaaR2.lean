/- The reference's heap: a cell is read; a cell is written; a heap is made. Condition: the heap lies in memory. -/
import Derived.Test.YtkaeigklhdpifaaR1
import Derived.Test.YtkaeigklhdpifaaA1
namespace Go.Proofs.Ytkaeigklhdpifaa
open Go.RowKit Go.Maps Go.Sort
set_option linter.unusedVariables false
set_option linter.unusedSimpArgs false
theorem numsV_at {l : List (Int × Bool)} {n : Nat} {d : Int × Bool} (h : l[n]? = some d) : (numsV l)[n]? = some (.int .u64 d.1) := by unfold numsV; rw [List.getElem?_map, h]; rfl
theorem refsV_at {l : List (Int × Bool)} {n : Nat} {d : Int × Bool} (h : l[n]? = some d) : (refsV l)[n]? = some (.bool d.2) := by unfold refsV; rw [List.getElem?_map, h]; rfl
theorem numsV_len (l : List (Int × Bool)) : (numsV l).length = l.length := by simp [numsV]
theorem refsV_len (l : List (Int × Bool)) : (refsV l).length = l.length := by simp [refsV]
set_option maxHeartbeats 1000000 in
set_option maxRecDepth 100000 in
theorem c_rCell {M : Nat → Prop} {q bud : Nat} {S : Hs} (o i : Int) (w : World) (h : RP w M q bud S) (ok : Ok S bud) (ho : i64 o) (hi : i64 i) :
    Calls Try.prog 32 #[.pointer (some ⟨q, 0, none⟩), .int .i64 o, .int .i64 i] w fun e w' => e = .returned (.tuple #[.int .u64 (cellP S o i).1, .bool (cellP S o i).2.1, .int .i64 (cellP S o i).2.2]) ∧ Kp w w' := by
  have hqz := h.lt q h.nq
  obtain ⟨a, c, cv, rv, h1, hlc, _, _, ht, hro⟩ := h.list
  obtain ⟨c0, c1⟩ := row2 h1
  have HT := Lib.hid ht
  have HK := Lib.hid ok
  have HH := Lib.hid h
  have HR := Lib.hid hro
  have hSl := ok.len
  clear h h1 ht ok hro
  go_enter Try.func32, Try.ntmps32
  rcases atI_cases HK.out o with ⟨hh, ha⟩ | ⟨hh, k, b, hb, hbn, ha, hg⟩
  · have HA := Lib.hid ha
    have HE := Lib.hid (cellP_none (i := i) (getN_none.2 hh))
    clear ha hh
    go_wp2_with (go_at_call 20; (with_reducible refine (c_At _ w HH.out HK.out ho).mono ?_); rintro e w' ⟨rfl, hw'⟩; subst hw'; rw [HA.out])
    go_ret3
    exact ⟨by rw [HE.out]; rfl, Kp.refl _⟩
  · have hkl : k < S.length := (List.getElem?_eq_some_iff.1 hb).1
    obtain ⟨bl, z, rfl, e0, e1, e2, ez⟩ := HT.out.obj hb
    obtain ⟨hn, hr⟩ := HR.out.ob b (List.mem_of_getElem? hb)
    have hbl : b.cs.length ≤ 65536 := by have := used_mem (List.mem_of_getElem? hb); have := HK.out.fit; have := HK.out.bud; omega
    have HA := Lib.hid ha
    have HG := Lib.hid hg
    clear ha hg hh hbn
    by_cases hin : 0 ≤ i ∧ i < (b.cs.length : Int)
    · obtain ⟨i0, i1⟩ := hin
      obtain ⟨n, rfl⟩ := Int.eq_ofNat_of_zero_le i0
      have hnl : n < b.cs.length := by omega
      obtain ⟨d, hd⟩ : ∃ d, b.cs[n]? = some d := ⟨_, List.getElem?_eq_getElem hnl⟩
      have HE := Lib.hid (cellP_in HG.out i0 (by simpa using hd))
      obtain ⟨g1, p1, hv1, f1, _, y1, _⟩ := hn.at (numsV_at hd)
      obtain ⟨g2, p2, hv2, f2, _, y2, _⟩ := hr.at (refsV_at hd)
      rw [numsV_len] at hv1
      rw [refsV_len] at hv2
      rw [hv1] at e1
      rw [hv2] at e2
      clear hn hr hv1 hv2 hd
      go_wp2_with (first
        | (go_at_call 20; (with_reducible refine (c_At _ w HH.out HK.out ho).mono ?_); rintro e w' ⟨rfl, hw'⟩; subst hw'; rw [HA.out]))
      go_region_held3 (fun w' : World => w'.cell? ⟨q, 0, none⟩ = some (.slice (some ⟨bl, z, none⟩) S.length c) ∧ w'.cell? ⟨bl, z + k * 3 + 1, none⟩ = some (.slice (some ⟨g1, 0, none⟩) b.cs.length p1) ∧ w'.cell? ⟨bl, z + k * 3 + 2, none⟩ = some (.slice (some ⟨g2, 0, none⟩) b.cs.length p2) ∧ w'.cell? ⟨g1, n, none⟩ = some (.int .u64 d.1) ∧ w'.cell? ⟨g2, n, none⟩ = some (.bool d.2)) (exact ⟨c0, e1, e2, f1, f2⟩) (fail)
      go_wp2_with fail
      go_ret3
      exact ⟨by rw [HE.out]; rfl, (Kp.refl _).drew⟩
    · have hnl := hn.slice
      obtain ⟨a1, p1, hv1⟩ := hn.slice
      rw [numsV_len] at hv1
      rw [hv1] at e1
      have HE := Lib.hid (cellP_out HG.out (i := i) (by omega))
      clear hn hr hv1 hnl
      by_cases h0 : i < 0
      · go_wp2_with (go_at_call 20; (with_reducible refine (c_At _ w HH.out HK.out ho).mono ?_); rintro e w' ⟨rfl, hw'⟩; subst hw'; rw [HA.out])
        go_ret3
        exact ⟨by rw [HE.out]; rfl, Kp.refl _⟩
      · have h1 : (b.cs.length : Int) ≤ i := by omega
        go_wp2_with (go_at_call 20; (with_reducible refine (c_At _ w HH.out HK.out ho).mono ?_); rintro e w' ⟨rfl, hw'⟩; subst hw'; rw [HA.out])
        go_ret3
        exact ⟨by rw [HE.out]; rfl, Kp.refl _⟩
set_option maxHeartbeats 1000000 in
set_option maxRecDepth 100000 in
theorem c_MakeBad (n : Int) (w : World) (hn : n < 0 ∨ 65536 < n) : Calls Try.prog 11 #[.int .i64 n] w fun e w' => e = .returned (.tuple #[.pointer none, .int .i64 2]) ∧ w' = w := by
  go_enter Try.func11, Try.ntmps11
  by_cases h0 : n < 0
  · go_wp2_with fail
    go_ret2
    exact ⟨rfl, rfl⟩
  · have h1 : 65536 < n := by omega
    go_wp2_with fail
    go_ret2
    exact ⟨rfl, rfl⟩
set_option maxHeartbeats 1000000 in
set_option maxRecDepth 100000 in
theorem c_Make (n : Int) (w : World) (h0 : 0 ≤ n) (h1 : n ≤ 65536) : Calls Try.prog 11 #[.int .i64 n] w fun e w' =>
    ∃ q M, e = .returned (.tuple #[.pointer (some ⟨q, 0, none⟩), .int .i64 0]) ∧ RP w' M q n.toNat [] ∧ (∀ k, M k → w.heap.size ≤ k) ∧ Kp w w' := by
  go_enter Try.func11, Try.ntmps11
  go_wp2_with fail
  go_ret2
  refine ⟨_, fun k => k = w.heap.size, rfl, ⟨rfl, fun k hk => by simp; omega, .slice none 0 0, fun _ => .slice none 0 0, fun _ => .slice none 0 0, ?_, fun g hg => (by cases hg), World.ownsRow_nil _ _ _ _, ⟨fun o ho => (by cases ho), fun k => ⟨rfl, rfl⟩, fun o ho => (by cases ho), fun a ha => (by cases ha)⟩⟩, fun k hk => by omega, (Kp.refl w).alloc _⟩
  rw [heap_at (by simp)]
  have : ((n.toNat : Nat) : Int) = n := by omega
  rw [this]
/-- A cell is written. -/
theorem NV.set {w : World} {e : TypeId} {l : List Value} {v : Value} (h : NV w e l v) {i g : Nat} (hi : i < l.length) (hg : v.ownBlock = some g) (u : Value) : NV (w.setCell ⟨g, i, none⟩ u) e (l.set i u) v := by
  obtain ⟨hl, ⟨rfl, h0⟩ | ⟨gb, cap, cur, rfl, hB, hb, h1, h2, h3, h4⟩⟩ := h
  · cases hg
  · obtain rfl : gb = g := by simpa [Value.ownBlock] using hg
    have hs := heap_setCell_same w gb i _ _ u hb
    refine ⟨by simp, .inr ⟨gb, cap, _, by rw [List.length_set], Nat.zero_le _, hs, by rw [List.length_set]; exact h1, h2, by simpa using h3, ?_⟩⟩
    rw [List.length_set, Array.toList_setIfInBounds, List.take_set, h4]
theorem numsV_set (l : List (Int × Bool)) (i : Nat) (n : Int) : (numsV l).set i (.int .u64 n) = numsV (l.modify i fun c => (n, c.2)) := by
  apply List.ext_getElem?
  intro j
  unfold numsV
  rw [List.getElem?_set, List.getElem?_map, List.getElem?_map, List.getElem?_modify, List.length_map]
  by_cases e : i = j
  · subst e
    rw [if_pos rfl]
    by_cases hl : i < l.length
    · rw [if_pos hl, List.getElem?_eq_getElem hl]; simp
    · rw [if_neg hl, List.getElem?_eq_none (by omega)]; rfl
  · rw [if_neg e]
    cases l[j]? <;> simp [e]
theorem refsV_set (l : List (Int × Bool)) (i : Nat) (n : Int) : refsV (l.modify i fun c => (n, c.2)) = refsV l := by
  apply List.ext_getElem?
  intro j
  unfold refsV
  rw [List.getElem?_map, List.getElem?_map, List.getElem?_modify]
  cases l[j]? <;> simp
  split <;> rfl
theorem setC_at {S : Hs} {k : Int} {i : Nat} {n : Int} {j : Nat} {o : Ob} (h : (setC S k i n)[j]? = some o) : ∃ x, S[j]? = some x ∧ o.nm = x.nm := by
  unfold setC at h
  rw [List.getElem?_map] at h
  obtain ⟨x, hx, rfl⟩ := Option.map_eq_some_iff.1 h
  refine ⟨x, hx, ?_⟩
  split <;> rfl
theorem objC_setC (S : Hs) (k : Int) (i : Nat) (n : Int) (cv rv : Int → Value) : objC (setC S k i n) cv rv = objC S cv rv := by
  funext j
  unfold objC
  cases h : (setC S k i n)[j]? with
  | none =>
    have h2 : S[j]? = none := by
      rw [List.getElem?_eq_none_iff] at h ⊢
      rw [setC_len] at h; exact h
    rw [h2]
  | some o =>
    obtain ⟨x, hx, e⟩ := setC_at h
    rw [hx]
    dsimp only
    rw [e]
theorem RP.upd {w : World} {M : Nat → Prop} {q bud : Nat} {S : Hs} {v : Value} {cv rv : Int → Value} (ok : Ok S bud) (nq : M q) (lt : ∀ k, M k → k < w.heap.size)
    (h1 : w.heap[q]? = some (.cells #[v, .int .i64 (bud : Int)] 53 (0, 0))) (h2 : ∀ g, v.ownBlock = some g → M g ∧ g ≠ q) (h3 : w.ownsRow 0 50 3 v S.length (flat (objC S cv rv) S.length)) (h4 : RO w M q S cv rv)
    {o : Int} {b : Ob} {g i : Nat} (hb : getN S o = some b) (hg : (cv o).ownBlock = some g) (hi : i < b.cs.length) (n : Int) : RP (w.setCell ⟨g, i, none⟩ (.int .u64 n)) M q bud (setC S o i n) := by
  obtain ⟨hbm, hbn⟩ := getN_some hb
  rw [← hbn] at hg
  obtain ⟨g1, g2⟩ := h4.inN b hbm g (.inl hg)
  have hset : ∀ j, j ≠ g → (w.setCell ⟨g, i, none⟩ (.int .u64 n)).heap[j]? = w.heap[j]? := fun j hj => Below.heap_setCell _ _ _ _ hj
  obtain ⟨cur, hcur⟩ := own_cells (h4.ob b hbm).1 hg
  refine ⟨nq, fun k hk => by rw [World.size_setCell]; exact lt k hk, v, cv, rv, (hset q (Ne.symm g2)).trans h1, h2, ?_, ⟨fun x hx => ?_, h4.one, fun x hx g' hg' => ?_, fun x hx y hy g' hne hxg => ?_⟩⟩
  · rw [objC_setC, setC_len]
    refine own_turn h3 (fun k hk => hset k (fun e => ?_))
    subst e
    obtain ⟨cur2, hcur2⟩ := own_cells h3 hk
    rw [hcur2] at hcur; cases hcur
  · obtain ⟨y, hy, e1, e2, (⟨e3, rfl⟩ | ⟨e3, e4⟩)⟩ := setC_mem hx
    · obtain ⟨u1, u2⟩ := h4.ob _ hy
      refine ⟨u1.turn (fun j hj => hset j (fun e => by subst e; exact h4.ap _ hy _ hbm j (by rw [hbn]; exact e3) hj hg)), u2.turn (fun j hj => hset j (fun e => ?_))⟩
      subst e
      obtain ⟨cur2, hcur2⟩ := own_cells u2 hj
      rw [hcur2] at hcur; cases hcur
    · obtain rfl := ok.uniq hy hbm (e3.trans hbn.symm)
      obtain ⟨u1, u2⟩ := h4.ob _ hy
      rw [e1, e4, ← numsV_set, refsV_set]
      refine ⟨u1.set (by rw [numsV_len]; exact hi) hg _, u2.turn (fun j hj => hset j (fun e => ?_))⟩
      subst e
      obtain ⟨cur2, hcur2⟩ := own_cells u2 hj
      rw [hcur2] at hcur; cases hcur
  · obtain ⟨y, hy, e1, _⟩ := setC_mem hx
    rw [e1] at hg'
    exact h4.inN y hy g' hg'
  · obtain ⟨x', hx', ex, _⟩ := setC_mem hx
    obtain ⟨y', hy', ey, _⟩ := setC_mem hy
    rw [ex] at hxg hne
    rw [ey] at hne ⊢
    exact h4.ap x' hx' y' hy' g' hne hxg
end Go.Proofs.Ytkaeigklhdpifaa

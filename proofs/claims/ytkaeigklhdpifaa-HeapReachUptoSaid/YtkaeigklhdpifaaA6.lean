/- Reach, All, Collect. Condition: the heap lies in memory. -/
import Derived.Test.YtkaeigklhdpifaaA5
namespace Go.Proofs.Ytkaeigklhdpifaa
open Go.RowKit Go.Maps Go.Sort
set_option linter.unusedVariables false
set_option linter.unusedSimpArgs false
def Flat {α : Type} (L : Ly α) : Prop := ∀ w B w' B' x cs, L w B x cs → L w' B' x cs
theorem flatI : Flat LI := fun _ _ _ _ _ _ h => h
theorem flatBo : Flat LBo := fun _ _ _ _ _ _ h => h
def oneC (l : List Value) (i : Nat) : List Value := [(l[i]?).getD (.int .i64 0)]
theorem oneC_flat (l : List Value) : ∀ n, n ≤ l.length → flat (oneC l) n = l.take n
  | 0, _ => by simp [flat]
  | n + 1, h => by
    have h1 : l[n]? = some (l[n]'(by omega)) := List.getElem?_eq_getElem (by omega)
    rw [flat, oneC_flat l n (by omega), List.take_add_one, h1]
    simp [oneC, h1]
theorem il_of_own {w : World} {B : Nat} {v : Value} {l : List Int} (h : w.ownsRow B 3 1 v l.length (l.map encZ)) (hl : ∀ x ∈ l, i64 x) (hn : l.length ≤ 17592186043904) : IL w (From B) l v := by
  have hf : flat (oneC (l.map encZ)) l.length = l.map encZ := by rw [oneC_flat _ _ (by simp), List.take_of_length_le (by simp)]
  rw [← hf] at h
  obtain ⟨ad, c, rfl, hle, ht, _⟩ := tab_of_owns h (fun i => rfl)
  refine ⟨ad, c, _, rfl, hle, by omega, fun i => ⟨rfl, fun u hu => ?_⟩, ht, fun i x hx => ?_⟩
  · unfold oneC at hu
    rw [List.mem_singleton] at hu
    subst hu
    rw [List.getElem?_map]
    cases l[i]? <;> rfl
  · unfold oneC
    rw [List.getElem?_map, hx]
    exact ⟨rfl, hl x (List.mem_of_getElem? hx)⟩
theorem il_nil (w : World) (B : Sel) : IL w B [] (.slice none 0 0) := ⟨none, 0, fun _ => [.int .i64 0], rfl, Nat.le_refl _, by simp, fun i => ⟨rfl, by intro u hu; simp at hu; subst hu; rfl⟩, tab_nil _ _ _ _ _, fun i x hx => by simp at hx⟩
theorem ms_len {ss l : List Int} (h : ss.mergeSort (fun x y => decide (x ≤ y)) = l) : ss.length = l.length := by rw [← h, List.length_mergeSort]
theorem Ok.names {S : Hs} {bud : Nat} (h : Ok S bud) : (S.map (·.nm)).Pairwise (fun a b => a < b) := List.pairwise_map.2 h.up
theorem Ok.i64s {S : Hs} {bud : Nat} (h : Ok S bud) : ∀ x ∈ S.map (·.nm), i64 x := fun x hx => by
  obtain ⟨o, ho, rfl⟩ := List.mem_map.1 hx
  have := h.pos o ho
  unfold i64; omega
theorem Ok.names_len {S : Hs} {bud : Nat} (h : Ok S bud) : (S.map (·.nm)).length ≤ 17592186043904 := by have := h.len; simp; omega
theorem hasN_names {S : Hs} {k : Int} : hasN S k = true ↔ k ∈ S.map (·.nm) := by rw [hasN_iff, List.mem_map]
set_option maxHeartbeats 1000000 in
set_option maxRecDepth 100000 in
theorem c_Reach {N : Nat → Prop} {p bud : Nat} {S : Hs} (l : List Int) (v : Value) (B : Sel) (w : World) (h : HP w N p bud S) (ok : Ok S bud) (hl : IL w B l v) :
    Calls Try.prog 26 #[.pointer (some ⟨p, 0, none⟩), v] w fun e w' => ∃ u, e = .returned (.tuple #[u, .int .i64 (reachP S l).2]) ∧ IL w' (From w.heap.size) (reachP S l).1 u ∧ Kp w w' := by
  have HH := Lib.hid h
  have HK := Lib.hid ok
  have HL := Lib.hid hl
  clear h ok hl
  go_enter Try.func26, Try.ntmps26
  cases hk : knownR S l with
  | false =>
    have HN := Lib.hid hk
    clear hk
    go_wp2_with (go_at_call 38; (with_reducible refine (c_areRoots l v B w HH.out HK.out HL.out).mono ?_); rintro e w' ⟨rfl, rfl⟩; rw [HN.out])
    go_ret2
    have hr : reachP S l = ([], 15) := by unfold reachP; rw [HN.out]; rfl
    rw [hr]
    exact ⟨_, rfl, il_nil _ _, Kp.refl _⟩
  | true =>
    have HN := Lib.hid hk
    clear hk
    go_wp2_with (first
      | (go_at_call 38; (with_reducible refine (c_areRoots l v B w HH.out HK.out HL.out).mono ?_); rintro e w' ⟨rfl, rfl⟩; rw [HN.out])
      | (go_at_call 49; (with_reducible refine (c_reached l v B _ HH.out HK.out HL.out HN.out).mono ?_); rintro e w1 ⟨mt, D, g, rfl, h1, h2, h3, h4, h5, h6, h7⟩; have H1 : Hid (w1.ownsMap Try.prog 3 RI mt (Maps.size D) D) := Lib.hid h1; have H2 := Lib.hid h2; have H3 := Lib.hid h3; have H5 := Lib.hid h5; have H7 := Lib.hid h7; clear h1 h2 h3 h4 h5 h7)
      | (go_at_call 48; (with_reducible refine (c_KeysA (some mt) w1).mono ?_); rintro e w2 ⟨rfl, rfl⟩)
      | (go_at_call 47; (with_reducible refine (c_SortedA H1.out H5.out).mono ?_); rintro e w3 ⟨u, ss, rfl, hp, ho, hk3⟩; have HP' := Lib.hid hp; have HO := Lib.hid ho; have HK3 := Lib.hid hk3; clear hp ho hk3))
    go_ret2
    have hr : reachP S l = (rl S l, 0) := by unfold reachP; rw [HN.out]; rfl
    rw [hr]
    have okc := HK.out.col l
    have hs := keys_sorted H1.out (l := rl S l) okc.names (fun k => by rw [H2.out.hs, decide_eq_true_eq, H3.out, rl_mem]) HP'.out
    have hO := HO.out
    rw [hs, ms_len hs] at hO
    have hI := il_of_own hO okc.i64s okc.names_len
    exact ⟨u, rfl, RL.weak goodI hI (From_le H7.out.sz), H7.out.trans HK3.out⟩
set_option maxHeartbeats 1000000 in
set_option maxRecDepth 100000 in
theorem c_All {N : Nat → Prop} {p bud : Nat} {S : Hs} (w : World) (h : HP w N p bud S) (ok : Ok S bud) :
    Calls Try.prog 46 #[.pointer (some ⟨p, 0, none⟩)] w fun e w' => ∃ b u, e = .returned (.func (.func 58) #[] #[.pointer (some ⟨b, 0, none⟩)]) ∧ w'.cell? ⟨b, 0, none⟩ = some u ∧ b < w'.heap.size ∧ IL w' (From w.heap.size) (S.map (·.nm)) u ∧ Kp w w' := by
  have hV : ∀ (a : Option Addr) (n c : Nat) (w : World), Calls Try.prog 52 #[.slice a n c] w fun e w' => e = .returned (.func (.func 58) #[] #[.pointer (some ⟨w.heap.size, 0, none⟩)]) ∧ w' = w.alloc (.cells #[.slice a n c] 33) := by
    intro a n c w
    go_enter Try.func52, Try.ntmps52
    go_wp2_with fail
    go_ret
    exact ⟨rfl, rfl⟩
  have HK := Lib.hid ok
  obtain ⟨np, lt, tk, mb, D, F, h1, h2, h3, h4, h5, h6, h7, h8⟩ := h
  obtain ⟨c0, c1, c2, c3⟩ := row4 h1
  have hz : p < w.heap.size := lt p np
  have H5 : Hid (w.ownsMap Try.prog 3 RS mb (Maps.size D) D) := Lib.hid h5
  have H6 := Lib.hid h6
  have hsz : Maps.size D ≤ 65536 := by rw [h7]; exact ok.len
  have hd : ∀ k : Int, Maps.has D (.int .i64 k) = true ↔ k ∈ S.map (·.nm) := fun k => by rw [h6.hs, h8.dom, hasN_names]
  have HS := Lib.hid hsz
  have HD := Lib.hid hd
  clear h1 h2 h3 h4 h5 h6 h7 h8 lt np ok hd hsz
  go_enter Try.func46, Try.ntmps46
  go_wp2_with (first
    | (go_at_call 51; (with_reducible refine (c_KeysB (some mb) w).mono ?_); rintro e w2 ⟨rfl, rfl⟩)
    | (go_at_call 47; (with_reducible refine (c_SortedB H5.out HS.out).mono ?_); rintro e w3 ⟨u, ss, rfl, hp, ho, hk3⟩; obtain ⟨au, cu, rfl⟩ := own_slice ho; have HP' := Lib.hid hp; have HO := Lib.hid ho; have HK3 := Lib.hid hk3; clear hp ho hk3)
    | (go_at_call 52; (with_reducible refine (hV _ _ _ _).mono ?_); rintro e w4 ⟨rfl, rfl⟩))
  go_ret
  have hs := keys_sorted H5.out HK.out.names HD.out HP'.out
  have hO := HO.out
  rw [hs, ms_len hs] at hO
  have hI := il_of_own hO HK.out.i64s HK.out.names_len
  refine ⟨_, _, rfl, row_cell (heap_at rfl) 0, by simp, ?_, HK3.out.alloc _⟩
  rw [← ms_len hs] at *
  exact hI.keep goodI ((Kp.refl _).alloc _)
set_option maxHeartbeats 1000000 in
set_option maxRecDepth 100000 in
theorem c_AllN (w : World) : Calls Try.prog 46 #[.pointer none] w fun e w' => ∃ b, e = .returned (.func (.func 58) #[] #[.pointer (some ⟨b, 0, none⟩)]) ∧ w'.cell? ⟨b, 0, none⟩ = some (.slice none 0 0) ∧ b < w'.heap.size ∧ Kp w w' := by
  have hV : ∀ (a : Option Addr) (n c : Nat) (w : World), Calls Try.prog 52 #[.slice a n c] w fun e w' => e = .returned (.func (.func 58) #[] #[.pointer (some ⟨w.heap.size, 0, none⟩)]) ∧ w' = w.alloc (.cells #[.slice a n c] 33) := by
    intro a n c w
    go_enter Try.func52, Try.ntmps52
    go_wp2_with fail
    go_ret
    exact ⟨rfl, rfl⟩
  go_enter Try.func46, Try.ntmps46
  go_wp2_with (go_at_call 52; (with_reducible refine (hV _ _ _ _).mono ?_); rintro e w4 ⟨rfl, rfl⟩)
  go_ret
  exact ⟨_, rfl, row_cell (heap_at rfl) 0, by simp, (Kp.refl w).alloc _⟩
end Go.Proofs.Ytkaeigklhdpifaa

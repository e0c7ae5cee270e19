/- The statement KonstWords, walked: at every input the call returns true, and of what was there nothing has turned. Condition: the library's table of powers of ten holds them. -/
import Derived.Test.YtihchlkoohficaaDoorDD
namespace Go.Proofs.YtihchlkoohficaaDoor
open Go.RowKit Go.Sort Plain
set_option linter.unusedVariables false
set_option linter.unusedSimpArgs false
set_option maxRecDepth 100000 in
set_option maxHeartbeats 12800000 in
theorem kw_A (k : Int) (b : Bool) (n q : Int) (w : World) (hn : 0 ≤ n ∧ n < 18446744073709551616) (hq : 0 ≤ q ∧ q < 18446744073709551616) (hkc : kc b n = false) (hwh : wh k = false) (htab : TabP w)
    (h1 : ∀ w, Calls Tryd.prog 4 #[.int .i64 k, .bool b, .int .u64 n] w fun e w' => e = .returned (.tuple #[.int .u64 0, .int .i64 2]) ∧ Kp w w')
    (h2 : ∀ w, Calls Tryd.prog 5 #[.int .i64 k, .int .u64 q] w fun e w' => e = .returned (.tuple #[.bool false, .int .u64 0, .int .i64 2]) ∧ Kp w w') :
    Calls Tryd.prog 3 #[.int .i64 k, .agg #[.bool b, .int .u64 n], .int .u64 q] w fun e w' => e = .returned (.bool true) ∧ Below w.heap.size w w' := by
  have HN := Lib.hid hn
  have HQ := Lib.hid hq
  have H1 := Lib.hid h1
  have H2 := Lib.hid h2
  have HX := Lib.hid (fun (w' : World) (h : Kp w w') => tab_kp htab h)
  clear hn hq h1 h2 htab
  go_enter Tryd.func3, Tryd.ntmps3
  go_wp2_with (first | ((go_at_call 4; with_reducible refine (H1.out _).mono ?_; rintro e w1 ⟨rfl, hk⟩; have hx0 := keepc hk (b := w.heap.size) (o := 0) (v := .bool b) (by first | assumption | (simp [go_sem]; done) | (simp [go_sem, *]; done)); have hx1 := keepc hk (b := w.heap.size) (o := 1) (v := .int .u64 n) (by first | assumption | (simp [go_sem]; done) | (simp [go_sem, *]; done)); have HK1 := Lib.hid (show Kp w w1 from (by (repeat (first | exact Kp.refl _ | refine kback (by assumption) ?_ | refine Kp.setCell ?_ (by first | omega | (simp; done) | (simp; omega)) _ | refine Kp.alloc ?_ _ _ | refine Kp.drewN ?_ _ | refine Kp.drew ?_)))))) | ((go_at_call 5; with_reducible refine (H2.out _).mono ?_; rintro e w2 ⟨rfl, hk⟩; have hx0 := keepc hk (b := w.heap.size) (o := 0) (v := .bool b) (by first | assumption | (simp [go_sem]; done) | (simp [go_sem, *]; done)); have hx1 := keepc hk (b := w.heap.size) (o := 1) (v := .int .u64 n) (by first | assumption | (simp [go_sem]; done) | (simp [go_sem, *]; done)); have HK2 := Lib.hid (show Kp w w2 from HK1.out.trans hk); have hw20 := hx0)) | ((go_at_call 6; with_reducible refine (x_bad b n _ hkc).mono ?_; rintro e w3 ⟨rfl, hb⟩; have hx0 := keepb hb (b := w.heap.size) (o := 0) (v := .bool b) (by first | assumption | (simp [go_sem]; done) | (simp [go_sem, *]; done)); have hx1 := keepb hb (b := w.heap.size) (o := 1) (v := .int .u64 n) (by first | assumption | (simp [go_sem]; done) | (simp [go_sem, *]; done)))) | ((go_at_call 7; with_reducible refine (c_answers _).mono ?_; rintro e w4 ⟨rfl, hk⟩; have hx0 := keepc hk (b := w.heap.size) (o := 0) (v := .bool b) (by first | assumption | (simp [go_sem]; done) | (simp [go_sem, *]; done)); have hx1 := keepc hk (b := w.heap.size) (o := 1) (v := .int .u64 n) (by first | assumption | (simp [go_sem]; done) | (simp [go_sem, *]; done)))) | ((go_at_call 8; with_reducible refine (c_Const b n w4 HN.out.1).mono ?_; rintro e w5 ⟨rfl, hk⟩; have hx0 := keepc hk (b := w.heap.size) (o := 0) (v := .bool b) (by first | assumption | (simp [go_sem]; done) | (simp [go_sem, *]; done)); have hx1 := keepc hk (b := w.heap.size) (o := 1) (v := .int .u64 n) (by first | assumption | (simp [go_sem]; done) | (simp [go_sem, *]; done)))) | ((go_at_call 10; with_reducible refine (c_Whole _ _).mono ?_; rintro e wW ⟨rfl, rfl⟩)))
  go_ret
  exact ⟨rfl, (by (repeat (first | exact Below.refl _ _ | refine bb (by assumption) ?_ | refine kbb (by assumption) ?_ | refine ab ?_ _ _ | refine sb ?_ (by first | omega | (simp; done) | (simp; omega)) _ | refine db ?_)))⟩
set_option maxRecDepth 100000 in
set_option maxHeartbeats 12800000 in
theorem kw_B (k : Int) (b : Bool) (n q : Int) (w : World) (hn : 0 ≤ n ∧ n < 18446744073709551616) (hq : 0 ≤ q ∧ q < 18446744073709551616) (hkc : kc b n = true) (hwh : wh k = false) (htab : TabP w)
    (h1 : ∀ w, Calls Tryd.prog 4 #[.int .i64 k, .bool b, .int .u64 n] w fun e w' => e = .returned (.tuple #[.int .u64 0, .int .i64 2]) ∧ Kp w w')
    (h2 : ∀ w, Calls Tryd.prog 5 #[.int .i64 k, .int .u64 q] w fun e w' => e = .returned (.tuple #[.bool false, .int .u64 0, .int .i64 2]) ∧ Kp w w') :
    Calls Tryd.prog 3 #[.int .i64 k, .agg #[.bool b, .int .u64 n], .int .u64 q] w fun e w' => e = .returned (.bool true) ∧ Below w.heap.size w w' := by
  have HN := Lib.hid hn
  have HQ := Lib.hid hq
  have H1 := Lib.hid h1
  have H2 := Lib.hid h2
  have HX := Lib.hid (fun (w' : World) (h : Kp w w') => tab_kp htab h)
  clear hn hq h1 h2 htab
  go_enter Tryd.func3, Tryd.ntmps3
  go_wp2_with (first | ((go_at_call 4; with_reducible refine (H1.out _).mono ?_; rintro e w1 ⟨rfl, hk⟩; have hx0 := keepc hk (b := w.heap.size) (o := 0) (v := .bool b) (by first | assumption | (simp [go_sem]; done) | (simp [go_sem, *]; done)); have hx1 := keepc hk (b := w.heap.size) (o := 1) (v := .int .u64 n) (by first | assumption | (simp [go_sem]; done) | (simp [go_sem, *]; done)); have HK1 := Lib.hid (show Kp w w1 from (by (repeat (first | exact Kp.refl _ | refine kback (by assumption) ?_ | refine Kp.setCell ?_ (by first | omega | (simp; done) | (simp; omega)) _ | refine Kp.alloc ?_ _ _ | refine Kp.drewN ?_ _ | refine Kp.drew ?_)))))) | ((go_at_call 5; with_reducible refine (H2.out _).mono ?_; rintro e w2 ⟨rfl, hk⟩; have hx0 := keepc hk (b := w.heap.size) (o := 0) (v := .bool b) (by first | assumption | (simp [go_sem]; done) | (simp [go_sem, *]; done)); have hx1 := keepc hk (b := w.heap.size) (o := 1) (v := .int .u64 n) (by first | assumption | (simp [go_sem]; done) | (simp [go_sem, *]; done)); have HK2 := Lib.hid (show Kp w w2 from HK1.out.trans hk); have hw20 := hx0)) | ((go_at_call 6; with_reducible refine (x_good b n _ HN.out hkc (HX.out _ HK2.out)).mono ?_; rintro e w3 ⟨rfl, hb⟩; have hx0 := keepb hb (b := w.heap.size) (o := 0) (v := .bool b) (by first | assumption | (simp [go_sem]; done) | (simp [go_sem, *]; done)); have hx1 := keepb hb (b := w.heap.size) (o := 1) (v := .int .u64 n) (by first | assumption | (simp [go_sem]; done) | (simp [go_sem, *]; done)); have hs3 : w.heap.size < w3.heap.size := (by have h9 := hb.size; have h8 := HK1.out.below.size; have h7 := HK2.out.below.size; have h6 : w.heap.size < w2.heap.size := (by apply Classical.byContradiction; intro hx; have : w2.heap[w.heap.size]? = none := (by simp; omega); simp [World.cell?, this] at hw20); omega))) | ((go_at_call 7; with_reducible refine (c_answers _).mono ?_; rintro e w4 ⟨rfl, hk⟩; have hx0 := keepc hk (b := w.heap.size) (o := 0) (v := .bool b) (by first | assumption | (simp [go_sem]; done) | (simp [go_sem, *]; done)); have hx1 := keepc hk (b := w.heap.size) (o := 1) (v := .int .u64 n) (by first | assumption | (simp [go_sem]; done) | (simp [go_sem, *]; done)))) | ((go_at_call 8; with_reducible refine (c_Const b n w4 HN.out.1).mono ?_; rintro e w5 ⟨rfl, hk⟩; have hx0 := keepc hk (b := w.heap.size) (o := 0) (v := .bool b) (by first | assumption | (simp [go_sem]; done) | (simp [go_sem, *]; done)); have hx1 := keepc hk (b := w.heap.size) (o := 1) (v := .int .u64 n) (by first | assumption | (simp [go_sem]; done) | (simp [go_sem, *]; done)))) | ((go_at_call 9; with_reducible refine (c_Dig n b w5 HN.out).mono ?_; rintro e w6 ⟨rfl, hk⟩; have hx0 := keepc hk (b := w.heap.size) (o := 0) (v := .bool b) (by first | assumption | (simp [go_sem]; done) | (simp [go_sem, *]; done)); have hx1 := keepc hk (b := w.heap.size) (o := 1) (v := .int .u64 n) (by first | assumption | (simp [go_sem]; done) | (simp [go_sem, *]; done)))) | ((go_at_call 10; with_reducible refine (c_Whole _ _).mono ?_; rintro e wW ⟨rfl, rfl⟩)))
  go_ret
  exact ⟨rfl, (by (repeat (first | exact Below.refl _ _ | refine bb (by assumption) ?_ | refine kbb (by assumption) ?_ | refine ab ?_ _ _ | refine sb ?_ (by first | omega | (simp; done) | (simp; omega)) _ | refine db ?_)))⟩
set_option maxRecDepth 100000 in
set_option maxHeartbeats 12800000 in
theorem kw_Cg (k : Int) (b : Bool) (n q : Int) (w : World) (hn : 0 ≤ n ∧ n < 18446744073709551616) (hq : 0 ≤ q ∧ q < 18446744073709551616) (hkc : kc b n = false) (hwh : wh k = true) (htab : TabP w) (hi : iz k q = true) (he : e1 k q = 0)
    (h1 : ∀ w, Calls Tryd.prog 4 #[.int .i64 k, .bool b, .int .u64 n] w fun e w' => e = .returned (.tuple #[.int .u64 0, .int .i64 1]) ∧ Kp w w')
    (h2 : ∀ w, Calls Tryd.prog 5 #[.int .i64 k, .int .u64 q] w fun e w' => e = .returned (.tuple #[.bool (ng k q), .int .u64 (sz k q), .int .i64 0]) ∧ Kp w w') :
    Calls Tryd.prog 3 #[.int .i64 k, .agg #[.bool b, .int .u64 n], .int .u64 q] w fun e w' => e = .returned (.bool true) ∧ Below w.heap.size w w' := by
  have HN := Lib.hid hn
  have HQ := Lib.hid hq
  have H1 := Lib.hid h1
  have H2 := Lib.hid h2
  have HX := Lib.hid (fun (w' : World) (h : Kp w w') => tab_kp htab h)
  clear hn hq h1 h2 htab
  go_enter Tryd.func3, Tryd.ntmps3
  go_wp2_with (first | ((go_at_call 4; with_reducible refine (H1.out _).mono ?_; rintro e w1 ⟨rfl, hk⟩; have hx0 := keepc hk (b := w.heap.size) (o := 0) (v := .bool b) (by first | assumption | (simp [go_sem]; done) | (simp [go_sem, *]; done)); have hx1 := keepc hk (b := w.heap.size) (o := 1) (v := .int .u64 n) (by first | assumption | (simp [go_sem]; done) | (simp [go_sem, *]; done)); have HK1 := Lib.hid (show Kp w w1 from (by (repeat (first | exact Kp.refl _ | refine kback (by assumption) ?_ | refine Kp.setCell ?_ (by first | omega | (simp; done) | (simp; omega)) _ | refine Kp.alloc ?_ _ _ | refine Kp.drewN ?_ _ | refine Kp.drew ?_)))))) | ((go_at_call 5; with_reducible refine (H2.out _).mono ?_; rintro e w2 ⟨rfl, hk⟩; have hx0 := keepc hk (b := w.heap.size) (o := 0) (v := .bool b) (by first | assumption | (simp [go_sem]; done) | (simp [go_sem, *]; done)); have hx1 := keepc hk (b := w.heap.size) (o := 1) (v := .int .u64 n) (by first | assumption | (simp [go_sem]; done) | (simp [go_sem, *]; done)); have HK2 := Lib.hid (show Kp w w2 from HK1.out.trans hk); have hw20 := hx0)) | ((go_at_call 6; with_reducible refine (x_bad b n _ hkc).mono ?_; rintro e w3 ⟨rfl, hb⟩; have hx0 := keepb hb (b := w.heap.size) (o := 0) (v := .bool b) (by first | assumption | (simp [go_sem]; done) | (simp [go_sem, *]; done)); have hx1 := keepb hb (b := w.heap.size) (o := 1) (v := .int .u64 n) (by first | assumption | (simp [go_sem]; done) | (simp [go_sem, *]; done)))) | ((go_at_call 7; with_reducible refine (c_answers _).mono ?_; rintro e w4 ⟨rfl, hk⟩; have hx0 := keepc hk (b := w.heap.size) (o := 0) (v := .bool b) (by first | assumption | (simp [go_sem]; done) | (simp [go_sem, *]; done)); have hx1 := keepc hk (b := w.heap.size) (o := 1) (v := .int .u64 n) (by first | assumption | (simp [go_sem]; done) | (simp [go_sem, *]; done)))) | ((go_at_call 8; with_reducible refine (c_Const b n w4 HN.out.1).mono ?_; rintro e w5 ⟨rfl, hk⟩; have hx0 := keepc hk (b := w.heap.size) (o := 0) (v := .bool b) (by first | assumption | (simp [go_sem]; done) | (simp [go_sem, *]; done)); have hx1 := keepc hk (b := w.heap.size) (o := 1) (v := .int .u64 n) (by first | assumption | (simp [go_sem]; done) | (simp [go_sem, *]; done)))) | ((go_at_call 10; with_reducible refine (c_Whole _ _).mono ?_; rintro e wW ⟨rfl, rfl⟩)))
  have hsz : w.heap.size < w5.heap.size := by
    apply Classical.byContradiction; intro hx; have : w5.heap[w.heap.size]? = none := (by simp; omega); simp [World.cell?, this] at hx0
  have hnz : ¬ w.heap.size = w5.heap.size := by omega
  refine wp_region_held_drew (S := fun w'' => w''.cell? ⟨w.heap.size, 0, none⟩ = some (.bool b) ∧ w''.cell? ⟨w.heap.size, 1, none⟩ = some (.int .u64 n) ∧ w''.cell? ⟨w5.heap.size, 0, none⟩ = some (.bool (ng k q)) ∧ w''.cell? ⟨w5.heap.size, 1, none⟩ = some (.int .u64 (sz k q))) (by kernel_rfl) (by refine ⟨?_, ?_, ?_, ?_⟩ <;> first | assumption | (simp [go_sem]; done) | (simp [go_sem, *]; done)) (fun hHeld0 => ?_)
  refine wpAnyH_take (i := 0) (oi := { dst := some 92, op := Op.move (Operand.tmp 11), type := 25, pos := "law.go:43", after := #[], guard := none }) (v := ?_) rfl (by kernel_rfl) (by kernel_rfl) (by kernel_rfl) (fun _ _ _ h => h) (Or.inl ⟨by rfl, ?_⟩) (by assumption) ?_
  rotate_left
  · (intro wz hSw; (try dsimp only at hSw); go_simp; first | done | with_reducible rfl)
  try simp only [Act.put, List.setIfInBounds_toArray, List.set_cons_zero, List.set_cons_succ]
  refine wpAnyH_take (i := 1) (oi := { dst := some 93, op := Op.move (Operand.tmp 0), type := 3, pos := "law.go:43", after := #[], guard := none }) (v := ?_) rfl (by kernel_rfl) (by kernel_rfl) (by kernel_rfl) (fun _ _ _ h => h) (Or.inl ⟨by rfl, ?_⟩) (by assumption) ?_
  rotate_left
  · (intro wz hSw; (try dsimp only at hSw); go_simp; first | done | with_reducible rfl)
  try simp only [Act.put, List.setIfInBounds_toArray, List.set_cons_zero, List.set_cons_succ]
  refine wpAnyH_take (i := 2) (oi := { dst := some 94, op := Op.move (Operand.tmp 2), type := 22, pos := "law.go:43", after := #[], guard := none }) (v := ?_) rfl (by kernel_rfl) (by kernel_rfl) (by kernel_rfl) (fun _ _ _ h => h) (Or.inl ⟨by rfl, ?_⟩) (by assumption) ?_
  rotate_left
  · (intro wz hSw; (try dsimp only at hSw); go_simp; first | done | with_reducible rfl)
  try simp only [Act.put, List.setIfInBounds_toArray, List.set_cons_zero, List.set_cons_succ]
  refine wpAnyH_ready (rs := [3]) (by kernel_rfl) (by simp) ?_
  refine AllReadyH.cons (o := { dst := some 95, op := Op.buildSlice 52 1 #[(0, Operand.tmp 94)], type := 52, pos := "law.go:43", after := #[{ on := 2, ground := Ground.data }], guard := none }) rfl (fun Kw hKw => ?_) AllReadyH.nil
  go_simp
  (try go_wp2_with fail)
  refine hKw.out _ _ ?_ (fun hHeld1 => ?_)
  · refine ⟨?_, ?_, ?_, ?_⟩ <;> first | assumption | (simp [go_sem]; done) | (simp [go_sem, *]; done)
  clear hKw Kw hHeld0
  try simp only [Act.put, List.setIfInBounds_toArray, List.set_cons_zero, List.set_cons_succ]
  refine wpAnyH_ready (rs := [4]) (by kernel_rfl) (by simp) ?_
  refine AllReadyH.cons (o := { dst := some 96, op := Op.call { callee := Callee.value (Operand.func 11), args := #[Operand.tmp 93, Operand.tmp 95], argTypes := #[3, 52] }, type := 25, pos := "law.go:43", after := #[{ on := 1, ground := Ground.data }, { on := 3, ground := Ground.data }], guard := none }) rfl (fun Kw hKw => ?_) AllReadyH.nil
  go_simp
  ((go_at_call 11; with_reducible refine (c_Bad1 k q _ _ HQ.out ?_).mono ?_; (focus (first | (simp [go_sem]; done) | (simp [go_sem, *]; done))); rintro e w7 ⟨rfl, rfl⟩))
  (try go_wp2_with fail)
  refine hKw.out _ _ ?_ (fun hHeld2 => ?_)
  · refine ⟨?_, ?_, ?_, ?_⟩ <;> first | assumption | (simp [go_sem]; done) | (simp [go_sem, *]; done)
  clear hKw Kw hHeld1
  try simp only [Act.put, List.setIfInBounds_toArray, List.set_cons_zero, List.set_cons_succ]
  refine wpAnyH_take (i := 5) (oi := { dst := some 97, op := Op.binOp BinOp.neq 25 (Operand.tmp 92) (Operand.tmp 96) 25, type := 4, pos := "law.go:43", after := #[{ on := 0, ground := Ground.data }, { on := 4, ground := Ground.data }], guard := none }) (v := ?_) rfl (by kernel_rfl) (by kernel_rfl) (by kernel_rfl) (fun _ _ _ h => h) (Or.inl ⟨by rfl, ?_⟩) (by assumption) ?_
  rotate_left
  · (intro wz hSw; (try dsimp only at hSw); go_simp; first | done | with_reducible rfl)
  try simp only [Act.put, List.setIfInBounds_toArray, List.set_cons_zero, List.set_cons_succ]
  refine wpAnyH_take (i := 6) (oi := { dst := some 98, op := Op.move (Operand.tmp 97), type := 4, pos := "law.go:43", after := #[{ on := 5, ground := Ground.data }, { on := 4, ground := Ground.chain }], guard := none }) (v := ?_) rfl (by kernel_rfl) (by kernel_rfl) (by kernel_rfl) (fun _ _ _ h => h) (Or.inl ⟨by rfl, ?_⟩) (by assumption) ?_
  rotate_left
  · (intro wz hSw; (try dsimp only at hSw); go_simp; first | done | with_reducible rfl)
  try simp only [Act.put, List.setIfInBounds_toArray, List.set_cons_zero, List.set_cons_succ]
  refine wpAnyH_take (i := 7) (oi := { dst := some 99, op := Op.move (Operand.tmp 11), type := 25, pos := "law.go:43", after := #[{ on := 6, ground := Ground.guard }], guard := some (6, false) }) (v := ?_) rfl (by kernel_rfl) (by kernel_rfl) (by kernel_rfl) (fun _ _ _ h => h) (Or.inl ⟨by rfl, ?_⟩) (by assumption) ?_
  rotate_left
  · (intro wz hSw; (try dsimp only at hSw); go_simp; first | done | with_reducible rfl)
  try simp only [Act.put, List.setIfInBounds_toArray, List.set_cons_zero, List.set_cons_succ]
  refine wpAnyH_take (i := 8) (oi := { dst := some 100, op := Op.binOp BinOp.neq 25 (Operand.tmp 99) (Operand.const (Value.int IntKind.i64 0)) 25, type := 4, pos := "law.go:43", after := #[{ on := 7, ground := Ground.data }, { on := 6, ground := Ground.guard }], guard := some (6, false) }) (v := ?_) rfl (by kernel_rfl) (by kernel_rfl) (by kernel_rfl) (fun _ _ _ h => h) (Or.inl ⟨by rfl, ?_⟩) (by assumption) ?_
  rotate_left
  · (intro wz hSw; (try dsimp only at hSw); go_simp; first | done | with_reducible rfl)
  try simp only [Act.put, List.setIfInBounds_toArray, List.set_cons_zero, List.set_cons_succ]
  refine wpAnyH_take (i := 9) (oi := { dst := some 101, op := Op.move (Operand.tmp 100), type := 4, pos := "law.go:43", after := #[{ on := 8, ground := Ground.data }, { on := 6, ground := Ground.chain }, { on := 6, ground := Ground.guard }], guard := some (6, false) }) (v := ?_) rfl (by kernel_rfl) (by kernel_rfl) (by kernel_rfl) (fun _ _ _ h => h) (Or.inl ⟨by rfl, ?_⟩) (by assumption) ?_
  rotate_left
  · (intro wz hSw; (try dsimp only at hSw); go_simp; first | done | with_reducible rfl)
  try simp only [Act.put, List.setIfInBounds_toArray, List.set_cons_zero, List.set_cons_succ]
  refine wpAnyH_take (i := 10) (oi := { dst := some 102, op := Op.load 24 (Operand.tmp 14), type := 24, pos := "law.go:43", after := #[{ on := 9, ground := Ground.guard }], guard := some (9, true) }) (v := undef) rfl (by kernel_rfl) (by kernel_rfl) (by kernel_rfl) (fun _ _ _ h => h) (Or.inr ⟨by rfl, rfl⟩) (by assumption) ?_
  try simp only [Act.put, List.setIfInBounds_toArray, List.set_cons_zero, List.set_cons_succ]
  refine wpAnyH_take (i := 11) (oi := { dst := some 103, op := Op.build 24 #[], type := 24, pos := "law.go:43", after := #[{ on := 9, ground := Ground.guard }], guard := some (9, true) }) (v := undef) rfl (by kernel_rfl) (by kernel_rfl) (by kernel_rfl) (fun _ _ _ h => h) (Or.inr ⟨by rfl, rfl⟩) (by assumption) ?_
  try simp only [Act.put, List.setIfInBounds_toArray, List.set_cons_zero, List.set_cons_succ]
  refine wpAnyH_take (i := 12) (oi := { dst := some 104, op := Op.binOp BinOp.neq 24 (Operand.tmp 102) (Operand.tmp 103) 24, type := 4, pos := "law.go:43", after := #[{ on := 10, ground := Ground.data }, { on := 11, ground := Ground.data }, { on := 9, ground := Ground.guard }], guard := some (9, true) }) (v := undef) rfl (by kernel_rfl) (by kernel_rfl) (by kernel_rfl) (fun _ _ _ h => h) (Or.inr ⟨by rfl, rfl⟩) (by assumption) ?_
  try simp only [Act.put, List.setIfInBounds_toArray, List.set_cons_zero, List.set_cons_succ]
  refine wpAnyH_take (i := 13) (oi := { dst := some 105, op := Op.pick (Operand.tmp 101) (Operand.tmp 104) (Operand.const (Value.bool false)), type := 4, pos := "law.go:43", after := #[{ on := 9, ground := Ground.data }, { on := 12, ground := Ground.data }, { on := 6, ground := Ground.guard }], guard := some (6, false) }) (v := ?_) rfl (by kernel_rfl) (by kernel_rfl) (by kernel_rfl) (fun _ _ _ h => h) (Or.inl ⟨by rfl, ?_⟩) (by assumption) ?_
  rotate_left
  · (intro wz hSw; (try dsimp only at hSw); go_simp; first | done | with_reducible rfl)
  try simp only [Act.put, List.setIfInBounds_toArray, List.set_cons_zero, List.set_cons_succ]
  refine wpAnyH_take (i := 14) (oi := { dst := some 106, op := Op.pick (Operand.tmp 98) (Operand.const (Value.bool true)) (Operand.tmp 105), type := 4, pos := "law.go:43", after := #[{ on := 6, ground := Ground.data }, { on := 13, ground := Ground.data }], guard := none }) (v := ?_) rfl (by kernel_rfl) (by kernel_rfl) (by kernel_rfl) (fun _ _ _ h => h) (Or.inl ⟨by rfl, ?_⟩) (by assumption) ?_
  rotate_left
  · (intro wz hSw; (try dsimp only at hSw); go_simp; first | done | with_reducible rfl)
  try simp only [Act.put, List.setIfInBounds_toArray, List.set_cons_zero, List.set_cons_succ]
  refine wpAnyH_take (i := 15) (oi := { dst := some 107, op := Op.move (Operand.tmp 106), type := 4, pos := "law.go:43", after := #[{ on := 14, ground := Ground.data }, { on := 9, ground := Ground.chain }], guard := none }) (v := ?_) rfl (by kernel_rfl) (by kernel_rfl) (by kernel_rfl) (fun _ _ _ h => h) (Or.inl ⟨by rfl, ?_⟩) (by assumption) ?_
  rotate_left
  · (intro wz hSw; (try dsimp only at hSw); go_simp; first | done | with_reducible rfl)
  try simp only [Act.put, List.setIfInBounds_toArray, List.set_cons_zero, List.set_cons_succ]
  refine wpAnyH_take (i := 16) (oi := { dst := some 108, op := Op.move (Operand.tmp 11), type := 25, pos := "law.go:43", after := #[{ on := 15, ground := Ground.guard }], guard := some (15, false) }) (v := ?_) rfl (by kernel_rfl) (by kernel_rfl) (by kernel_rfl) (fun _ _ _ h => h) (Or.inl ⟨by rfl, ?_⟩) (by assumption) ?_
  rotate_left
  · (intro wz hSw; (try dsimp only at hSw); go_simp; first | done | with_reducible rfl)
  try simp only [Act.put, List.setIfInBounds_toArray, List.set_cons_zero, List.set_cons_succ]
  refine wpAnyH_take (i := 17) (oi := { dst := some 109, op := Op.binOp BinOp.eql 25 (Operand.tmp 108) (Operand.const (Value.int IntKind.i64 0)) 25, type := 4, pos := "law.go:43", after := #[{ on := 16, ground := Ground.data }, { on := 15, ground := Ground.guard }], guard := some (15, false) }) (v := ?_) rfl (by kernel_rfl) (by kernel_rfl) (by kernel_rfl) (fun _ _ _ h => h) (Or.inl ⟨by rfl, ?_⟩) (by assumption) ?_
  rotate_left
  · (intro wz hSw; (try dsimp only at hSw); go_simp; first | done | with_reducible rfl)
  try simp only [Act.put, List.setIfInBounds_toArray, List.set_cons_zero, List.set_cons_succ]
  refine wpAnyH_take (i := 18) (oi := { dst := some 110, op := Op.move (Operand.tmp 109), type := 4, pos := "law.go:43", after := #[{ on := 17, ground := Ground.data }, { on := 15, ground := Ground.chain }, { on := 15, ground := Ground.guard }], guard := some (15, false) }) (v := ?_) rfl (by kernel_rfl) (by kernel_rfl) (by kernel_rfl) (fun _ _ _ h => h) (Or.inl ⟨by rfl, ?_⟩) (by assumption) ?_
  rotate_left
  · (intro wz hSw; (try dsimp only at hSw); go_simp; first | done | with_reducible rfl)
  try simp only [Act.put, List.setIfInBounds_toArray, List.set_cons_zero, List.set_cons_succ]
  refine wpAnyH_take (i := 19) (oi := { dst := some 111, op := Op.load 24 (Operand.tmp 14), type := 24, pos := "law.go:43", after := #[{ on := 18, ground := Ground.guard }], guard := some (18, true) }) (v := ?_) rfl (by kernel_rfl) (by kernel_rfl) (by kernel_rfl) (fun _ _ _ h => h) (Or.inl ⟨by rfl, ?_⟩) (by assumption) ?_
  rotate_left
  · (intro wz hSw; (try dsimp only at hSw); go_simp; first | done | with_reducible rfl)
  try simp only [Act.put, List.setIfInBounds_toArray, List.set_cons_zero, List.set_cons_succ]
  refine wpAnyH_take (i := 20) (oi := { dst := some 112, op := Op.move (Operand.tmp 0), type := 3, pos := "law.go:43", after := #[{ on := 18, ground := Ground.guard }], guard := some (18, true) }) (v := ?_) rfl (by kernel_rfl) (by kernel_rfl) (by kernel_rfl) (fun _ _ _ h => h) (Or.inl ⟨by rfl, ?_⟩) (by assumption) ?_
  rotate_left
  · (intro wz hSw; (try dsimp only at hSw); go_simp; first | done | with_reducible rfl)
  try simp only [Act.put, List.setIfInBounds_toArray, List.set_cons_zero, List.set_cons_succ]
  refine wpAnyH_take (i := 21) (oi := { dst := some 113, op := Op.move (Operand.tmp 2), type := 22, pos := "law.go:43", after := #[{ on := 18, ground := Ground.guard }], guard := some (18, true) }) (v := ?_) rfl (by kernel_rfl) (by kernel_rfl) (by kernel_rfl) (fun _ _ _ h => h) (Or.inl ⟨by rfl, ?_⟩) (by assumption) ?_
  rotate_left
  · (intro wz hSw; (try dsimp only at hSw); go_simp; first | done | with_reducible rfl)
  try simp only [Act.put, List.setIfInBounds_toArray, List.set_cons_zero, List.set_cons_succ]
  refine wpAnyH_ready (rs := [22]) (by kernel_rfl) (by simp) ?_
  refine AllReadyH.cons (o := { dst := some 114, op := Op.call { callee := Callee.value (Operand.func 12), args := #[Operand.tmp 112, Operand.tmp 113], argTypes := #[3, 22] }, type := 24, pos := "law.go:43", after := #[{ on := 20, ground := Ground.data }, { on := 21, ground := Ground.data }, { on := 18, ground := Ground.chain }, { on := 18, ground := Ground.guard }], guard := some (18, true) }) rfl (fun Kw hKw => ?_) AllReadyH.nil
  go_simp
  ((go_at_call 12; with_reducible refine (c_rOf k q _ HQ.out).mono ?_; rintro e w8 ⟨rfl, hk8⟩))
  (try go_wp2_with fail)
  refine hKw.out _ _ ?_ (fun hHeld3 => ?_)
  · refine ⟨?_, ?_, ?_, ?_⟩ <;> exact keepc hk8 (by first | assumption | (simp [go_sem]; done) | (simp [go_sem, *]; done))
  clear hKw Kw hHeld2
  try simp only [Act.put, List.setIfInBounds_toArray, List.set_cons_zero, List.set_cons_succ]
  refine wpAnyH_take (i := 23) (oi := { dst := some 115, op := Op.binOp BinOp.neq 24 (Operand.tmp 111) (Operand.tmp 114) 24, type := 4, pos := "law.go:43", after := #[{ on := 19, ground := Ground.data }, { on := 22, ground := Ground.data }, { on := 18, ground := Ground.guard }], guard := some (18, true) }) (v := ?_) rfl (by kernel_rfl) (by kernel_rfl) (by kernel_rfl) (fun _ _ _ h => h) (Or.inl ⟨by rfl, ?_⟩) (by assumption) ?_
  rotate_left
  · (intro wz hSw; (try dsimp only at hSw); go_simp; first | done | with_reducible rfl)
  try simp only [Act.put, List.setIfInBounds_toArray, List.set_cons_zero, List.set_cons_succ]
  refine wpAnyH_take (i := 24) (oi := { dst := some 116, op := Op.pick (Operand.tmp 110) (Operand.tmp 115) (Operand.const (Value.bool false)), type := 4, pos := "law.go:43", after := #[{ on := 18, ground := Ground.data }, { on := 23, ground := Ground.data }, { on := 15, ground := Ground.guard }], guard := some (15, false) }) (v := ?_) rfl (by kernel_rfl) (by kernel_rfl) (by kernel_rfl) (fun _ _ _ h => h) (Or.inl ⟨by rfl, ?_⟩) (by assumption) ?_
  rotate_left
  · (intro wz hSw; (try dsimp only at hSw); go_simp; first | done | with_reducible rfl)
  try simp only [Act.put, List.setIfInBounds_toArray, List.set_cons_zero, List.set_cons_succ]
  refine wpAnyH_take (i := 25) (oi := { dst := some 117, op := Op.pick (Operand.tmp 107) (Operand.const (Value.bool true)) (Operand.tmp 116), type := 4, pos := "law.go:43", after := #[{ on := 15, ground := Ground.data }, { on := 24, ground := Ground.data }], guard := none }) (v := ?_) rfl (by kernel_rfl) (by kernel_rfl) (by kernel_rfl) (fun _ _ _ h => h) (Or.inl ⟨by rfl, ?_⟩) (by assumption) ?_
  rotate_left
  · (intro wz hSw; (try dsimp only at hSw); go_simp; first | done | with_reducible rfl)
  try simp only [Act.put, List.setIfInBounds_toArray, List.set_cons_zero, List.set_cons_succ]
  refine wpAnyH_done (by kernel_rfl) ?_ _
  obtain ⟨hx0, hx1, hz0, hz1⟩ := hHeld3
  go_wp2_with (first | ((go_at_call 8; with_reducible refine (c_Const b n _ HN.out.1).mono ?_; rintro e wc ⟨rfl, hkc9⟩; have hx0 := keepc hkc9 (b := w.heap.size) (o := 0) (v := .bool b) (by first | assumption | (simp [go_sem]; done) | (simp [go_sem, *]; done)); have hx1 := keepc hkc9 (b := w.heap.size) (o := 1) (v := .int .u64 n) (by first | assumption | (simp [go_sem]; done) | (simp [go_sem, *]; done)))))
  go_ret
  exact ⟨rfl, (by (repeat (first | exact Below.refl _ _ | refine bb (by assumption) ?_ | refine kbb (by assumption) ?_ | refine ab ?_ _ _ | refine sb ?_ (by first | omega | (simp; done) | (simp; omega)) _ | refine db ?_)))⟩
set_option maxRecDepth 100000 in
set_option maxHeartbeats 12800000 in
theorem kw_Dg (k : Int) (b : Bool) (n q : Int) (w : World) (hn : 0 ≤ n ∧ n < 18446744073709551616) (hq : 0 ≤ q ∧ q < 18446744073709551616) (hkc : kc b n = true) (hwh : wh k = true) (htab : TabP w) (hi : iz k q = true) (he : e1 k q = 0) (hin : inV k b n = false)
    (h1 : ∀ w, Calls Tryd.prog 4 #[.int .i64 k, .bool b, .int .u64 n] w fun e w' => e = .returned (.tuple #[.int .u64 0, .int .i64 10]) ∧ Kp w w')
    (h2 : ∀ w, Calls Tryd.prog 5 #[.int .i64 k, .int .u64 q] w fun e w' => e = .returned (.tuple #[.bool (ng k q), .int .u64 (sz k q), .int .i64 0]) ∧ Kp w w') :
    Calls Tryd.prog 3 #[.int .i64 k, .agg #[.bool b, .int .u64 n], .int .u64 q] w fun e w' => e = .returned (.bool true) ∧ Below w.heap.size w w' := by
  have HN := Lib.hid hn
  have HQ := Lib.hid hq
  have H1 := Lib.hid h1
  have H2 := Lib.hid h2
  have HX := Lib.hid (fun (w' : World) (h : Kp w w') => tab_kp htab h)
  clear hn hq h1 h2 htab
  go_enter Tryd.func3, Tryd.ntmps3
  go_wp2_with (first | ((go_at_call 4; with_reducible refine (H1.out _).mono ?_; rintro e w1 ⟨rfl, hk⟩; have hx0 := keepc hk (b := w.heap.size) (o := 0) (v := .bool b) (by first | assumption | (simp [go_sem]; done) | (simp [go_sem, *]; done)); have hx1 := keepc hk (b := w.heap.size) (o := 1) (v := .int .u64 n) (by first | assumption | (simp [go_sem]; done) | (simp [go_sem, *]; done)); have HK1 := Lib.hid (show Kp w w1 from (by (repeat (first | exact Kp.refl _ | refine kback (by assumption) ?_ | refine Kp.setCell ?_ (by first | omega | (simp; done) | (simp; omega)) _ | refine Kp.alloc ?_ _ _ | refine Kp.drewN ?_ _ | refine Kp.drew ?_)))))) | ((go_at_call 5; with_reducible refine (H2.out _).mono ?_; rintro e w2 ⟨rfl, hk⟩; have hx0 := keepc hk (b := w.heap.size) (o := 0) (v := .bool b) (by first | assumption | (simp [go_sem]; done) | (simp [go_sem, *]; done)); have hx1 := keepc hk (b := w.heap.size) (o := 1) (v := .int .u64 n) (by first | assumption | (simp [go_sem]; done) | (simp [go_sem, *]; done)); have HK2 := Lib.hid (show Kp w w2 from HK1.out.trans hk); have hw20 := hx0)) | ((go_at_call 6; with_reducible refine (x_good b n _ HN.out hkc (HX.out _ HK2.out)).mono ?_; rintro e w3 ⟨rfl, hb⟩; have hx0 := keepb hb (b := w.heap.size) (o := 0) (v := .bool b) (by first | assumption | (simp [go_sem]; done) | (simp [go_sem, *]; done)); have hx1 := keepb hb (b := w.heap.size) (o := 1) (v := .int .u64 n) (by first | assumption | (simp [go_sem]; done) | (simp [go_sem, *]; done)); have hs3 : w.heap.size < w3.heap.size := (by have h9 := hb.size; have h8 := HK1.out.below.size; have h7 := HK2.out.below.size; have h6 : w.heap.size < w2.heap.size := (by apply Classical.byContradiction; intro hx; have : w2.heap[w.heap.size]? = none := (by simp; omega); simp [World.cell?, this] at hw20); omega))) | ((go_at_call 7; with_reducible refine (c_answers _).mono ?_; rintro e w4 ⟨rfl, hk⟩; have hx0 := keepc hk (b := w.heap.size) (o := 0) (v := .bool b) (by first | assumption | (simp [go_sem]; done) | (simp [go_sem, *]; done)); have hx1 := keepc hk (b := w.heap.size) (o := 1) (v := .int .u64 n) (by first | assumption | (simp [go_sem]; done) | (simp [go_sem, *]; done)))) | ((go_at_call 8; with_reducible refine (c_Const b n w4 HN.out.1).mono ?_; rintro e w5 ⟨rfl, hk⟩; have hx0 := keepc hk (b := w.heap.size) (o := 0) (v := .bool b) (by first | assumption | (simp [go_sem]; done) | (simp [go_sem, *]; done)); have hx1 := keepc hk (b := w.heap.size) (o := 1) (v := .int .u64 n) (by first | assumption | (simp [go_sem]; done) | (simp [go_sem, *]; done)))) | ((go_at_call 9; with_reducible refine (c_Dig n b w5 HN.out).mono ?_; rintro e w6 ⟨rfl, hk⟩; have hx0 := keepc hk (b := w.heap.size) (o := 0) (v := .bool b) (by first | assumption | (simp [go_sem]; done) | (simp [go_sem, *]; done)); have hx1 := keepc hk (b := w.heap.size) (o := 1) (v := .int .u64 n) (by first | assumption | (simp [go_sem]; done) | (simp [go_sem, *]; done)))) | ((go_at_call 10; with_reducible refine (c_Whole _ _).mono ?_; rintro e wW ⟨rfl, rfl⟩)))
  have hsz : w.heap.size < w6.heap.size := by
    apply Classical.byContradiction; intro hx; have : w6.heap[w.heap.size]? = none := (by simp; omega); simp [World.cell?, this] at hx0
  have hnz : ¬ w.heap.size = w6.heap.size := by omega
  refine wp_region_held_drew (S := fun w'' => w''.cell? ⟨w.heap.size, 0, none⟩ = some (.bool b) ∧ w''.cell? ⟨w.heap.size, 1, none⟩ = some (.int .u64 n) ∧ w''.cell? ⟨w6.heap.size, 0, none⟩ = some (.bool (ng k q)) ∧ w''.cell? ⟨w6.heap.size, 1, none⟩ = some (.int .u64 (sz k q))) (by kernel_rfl) (by refine ⟨?_, ?_, ?_, ?_⟩ <;> first | assumption | (simp [go_sem]; done) | (simp [go_sem, *]; done)) (fun hHeld0 => ?_)
  refine wpAnyH_take (i := 0) (oi := { dst := some 92, op := Op.move (Operand.tmp 11), type := 25, pos := "law.go:43", after := #[], guard := none }) (v := ?_) rfl (by kernel_rfl) (by kernel_rfl) (by kernel_rfl) (fun _ _ _ h => h) (Or.inl ⟨by rfl, ?_⟩) (by assumption) ?_
  rotate_left
  · (intro wz hSw; (try dsimp only at hSw); go_simp; first | done | with_reducible rfl)
  try simp only [Act.put, List.setIfInBounds_toArray, List.set_cons_zero, List.set_cons_succ]
  refine wpAnyH_take (i := 1) (oi := { dst := some 93, op := Op.move (Operand.tmp 0), type := 3, pos := "law.go:43", after := #[], guard := none }) (v := ?_) rfl (by kernel_rfl) (by kernel_rfl) (by kernel_rfl) (fun _ _ _ h => h) (Or.inl ⟨by rfl, ?_⟩) (by assumption) ?_
  rotate_left
  · (intro wz hSw; (try dsimp only at hSw); go_simp; first | done | with_reducible rfl)
  try simp only [Act.put, List.setIfInBounds_toArray, List.set_cons_zero, List.set_cons_succ]
  refine wpAnyH_take (i := 2) (oi := { dst := some 94, op := Op.move (Operand.tmp 2), type := 22, pos := "law.go:43", after := #[], guard := none }) (v := ?_) rfl (by kernel_rfl) (by kernel_rfl) (by kernel_rfl) (fun _ _ _ h => h) (Or.inl ⟨by rfl, ?_⟩) (by assumption) ?_
  rotate_left
  · (intro wz hSw; (try dsimp only at hSw); go_simp; first | done | with_reducible rfl)
  try simp only [Act.put, List.setIfInBounds_toArray, List.set_cons_zero, List.set_cons_succ]
  refine wpAnyH_ready (rs := [3]) (by kernel_rfl) (by simp) ?_
  refine AllReadyH.cons (o := { dst := some 95, op := Op.buildSlice 52 1 #[(0, Operand.tmp 94)], type := 52, pos := "law.go:43", after := #[{ on := 2, ground := Ground.data }], guard := none }) rfl (fun Kw hKw => ?_) AllReadyH.nil
  go_simp
  (try go_wp2_with fail)
  refine hKw.out _ _ ?_ (fun hHeld1 => ?_)
  · refine ⟨?_, ?_, ?_, ?_⟩ <;> first | assumption | (simp [go_sem]; done) | (simp [go_sem, *]; done)
  clear hKw Kw hHeld0
  try simp only [Act.put, List.setIfInBounds_toArray, List.set_cons_zero, List.set_cons_succ]
  refine wpAnyH_ready (rs := [4]) (by kernel_rfl) (by simp) ?_
  refine AllReadyH.cons (o := { dst := some 96, op := Op.call { callee := Callee.value (Operand.func 11), args := #[Operand.tmp 93, Operand.tmp 95], argTypes := #[3, 52] }, type := 25, pos := "law.go:43", after := #[{ on := 1, ground := Ground.data }, { on := 3, ground := Ground.data }], guard := none }) rfl (fun Kw hKw => ?_) AllReadyH.nil
  go_simp
  ((go_at_call 11; with_reducible refine (c_Bad1 k q _ _ HQ.out ?_).mono ?_; (focus (first | (simp [go_sem]; done) | (simp [go_sem, *]; done))); rintro e w7 ⟨rfl, rfl⟩))
  (try go_wp2_with fail)
  refine hKw.out _ _ ?_ (fun hHeld2 => ?_)
  · refine ⟨?_, ?_, ?_, ?_⟩ <;> first | assumption | (simp [go_sem]; done) | (simp [go_sem, *]; done)
  clear hKw Kw hHeld1
  try simp only [Act.put, List.setIfInBounds_toArray, List.set_cons_zero, List.set_cons_succ]
  refine wpAnyH_take (i := 5) (oi := { dst := some 97, op := Op.binOp BinOp.neq 25 (Operand.tmp 92) (Operand.tmp 96) 25, type := 4, pos := "law.go:43", after := #[{ on := 0, ground := Ground.data }, { on := 4, ground := Ground.data }], guard := none }) (v := ?_) rfl (by kernel_rfl) (by kernel_rfl) (by kernel_rfl) (fun _ _ _ h => h) (Or.inl ⟨by rfl, ?_⟩) (by assumption) ?_
  rotate_left
  · (intro wz hSw; (try dsimp only at hSw); go_simp; first | done | with_reducible rfl)
  try simp only [Act.put, List.setIfInBounds_toArray, List.set_cons_zero, List.set_cons_succ]
  refine wpAnyH_take (i := 6) (oi := { dst := some 98, op := Op.move (Operand.tmp 97), type := 4, pos := "law.go:43", after := #[{ on := 5, ground := Ground.data }, { on := 4, ground := Ground.chain }], guard := none }) (v := ?_) rfl (by kernel_rfl) (by kernel_rfl) (by kernel_rfl) (fun _ _ _ h => h) (Or.inl ⟨by rfl, ?_⟩) (by assumption) ?_
  rotate_left
  · (intro wz hSw; (try dsimp only at hSw); go_simp; first | done | with_reducible rfl)
  try simp only [Act.put, List.setIfInBounds_toArray, List.set_cons_zero, List.set_cons_succ]
  refine wpAnyH_take (i := 7) (oi := { dst := some 99, op := Op.move (Operand.tmp 11), type := 25, pos := "law.go:43", after := #[{ on := 6, ground := Ground.guard }], guard := some (6, false) }) (v := ?_) rfl (by kernel_rfl) (by kernel_rfl) (by kernel_rfl) (fun _ _ _ h => h) (Or.inl ⟨by rfl, ?_⟩) (by assumption) ?_
  rotate_left
  · (intro wz hSw; (try dsimp only at hSw); go_simp; first | done | with_reducible rfl)
  try simp only [Act.put, List.setIfInBounds_toArray, List.set_cons_zero, List.set_cons_succ]
  refine wpAnyH_take (i := 8) (oi := { dst := some 100, op := Op.binOp BinOp.neq 25 (Operand.tmp 99) (Operand.const (Value.int IntKind.i64 0)) 25, type := 4, pos := "law.go:43", after := #[{ on := 7, ground := Ground.data }, { on := 6, ground := Ground.guard }], guard := some (6, false) }) (v := ?_) rfl (by kernel_rfl) (by kernel_rfl) (by kernel_rfl) (fun _ _ _ h => h) (Or.inl ⟨by rfl, ?_⟩) (by assumption) ?_
  rotate_left
  · (intro wz hSw; (try dsimp only at hSw); go_simp; first | done | with_reducible rfl)
  try simp only [Act.put, List.setIfInBounds_toArray, List.set_cons_zero, List.set_cons_succ]
  refine wpAnyH_take (i := 9) (oi := { dst := some 101, op := Op.move (Operand.tmp 100), type := 4, pos := "law.go:43", after := #[{ on := 8, ground := Ground.data }, { on := 6, ground := Ground.chain }, { on := 6, ground := Ground.guard }], guard := some (6, false) }) (v := ?_) rfl (by kernel_rfl) (by kernel_rfl) (by kernel_rfl) (fun _ _ _ h => h) (Or.inl ⟨by rfl, ?_⟩) (by assumption) ?_
  rotate_left
  · (intro wz hSw; (try dsimp only at hSw); go_simp; first | done | with_reducible rfl)
  try simp only [Act.put, List.setIfInBounds_toArray, List.set_cons_zero, List.set_cons_succ]
  refine wpAnyH_take (i := 10) (oi := { dst := some 102, op := Op.load 24 (Operand.tmp 14), type := 24, pos := "law.go:43", after := #[{ on := 9, ground := Ground.guard }], guard := some (9, true) }) (v := undef) rfl (by kernel_rfl) (by kernel_rfl) (by kernel_rfl) (fun _ _ _ h => h) (Or.inr ⟨by rfl, rfl⟩) (by assumption) ?_
  try simp only [Act.put, List.setIfInBounds_toArray, List.set_cons_zero, List.set_cons_succ]
  refine wpAnyH_take (i := 11) (oi := { dst := some 103, op := Op.build 24 #[], type := 24, pos := "law.go:43", after := #[{ on := 9, ground := Ground.guard }], guard := some (9, true) }) (v := undef) rfl (by kernel_rfl) (by kernel_rfl) (by kernel_rfl) (fun _ _ _ h => h) (Or.inr ⟨by rfl, rfl⟩) (by assumption) ?_
  try simp only [Act.put, List.setIfInBounds_toArray, List.set_cons_zero, List.set_cons_succ]
  refine wpAnyH_take (i := 12) (oi := { dst := some 104, op := Op.binOp BinOp.neq 24 (Operand.tmp 102) (Operand.tmp 103) 24, type := 4, pos := "law.go:43", after := #[{ on := 10, ground := Ground.data }, { on := 11, ground := Ground.data }, { on := 9, ground := Ground.guard }], guard := some (9, true) }) (v := undef) rfl (by kernel_rfl) (by kernel_rfl) (by kernel_rfl) (fun _ _ _ h => h) (Or.inr ⟨by rfl, rfl⟩) (by assumption) ?_
  try simp only [Act.put, List.setIfInBounds_toArray, List.set_cons_zero, List.set_cons_succ]
  refine wpAnyH_take (i := 13) (oi := { dst := some 105, op := Op.pick (Operand.tmp 101) (Operand.tmp 104) (Operand.const (Value.bool false)), type := 4, pos := "law.go:43", after := #[{ on := 9, ground := Ground.data }, { on := 12, ground := Ground.data }, { on := 6, ground := Ground.guard }], guard := some (6, false) }) (v := ?_) rfl (by kernel_rfl) (by kernel_rfl) (by kernel_rfl) (fun _ _ _ h => h) (Or.inl ⟨by rfl, ?_⟩) (by assumption) ?_
  rotate_left
  · (intro wz hSw; (try dsimp only at hSw); go_simp; first | done | with_reducible rfl)
  try simp only [Act.put, List.setIfInBounds_toArray, List.set_cons_zero, List.set_cons_succ]
  refine wpAnyH_take (i := 14) (oi := { dst := some 106, op := Op.pick (Operand.tmp 98) (Operand.const (Value.bool true)) (Operand.tmp 105), type := 4, pos := "law.go:43", after := #[{ on := 6, ground := Ground.data }, { on := 13, ground := Ground.data }], guard := none }) (v := ?_) rfl (by kernel_rfl) (by kernel_rfl) (by kernel_rfl) (fun _ _ _ h => h) (Or.inl ⟨by rfl, ?_⟩) (by assumption) ?_
  rotate_left
  · (intro wz hSw; (try dsimp only at hSw); go_simp; first | done | with_reducible rfl)
  try simp only [Act.put, List.setIfInBounds_toArray, List.set_cons_zero, List.set_cons_succ]
  refine wpAnyH_take (i := 15) (oi := { dst := some 107, op := Op.move (Operand.tmp 106), type := 4, pos := "law.go:43", after := #[{ on := 14, ground := Ground.data }, { on := 9, ground := Ground.chain }], guard := none }) (v := ?_) rfl (by kernel_rfl) (by kernel_rfl) (by kernel_rfl) (fun _ _ _ h => h) (Or.inl ⟨by rfl, ?_⟩) (by assumption) ?_
  rotate_left
  · (intro wz hSw; (try dsimp only at hSw); go_simp; first | done | with_reducible rfl)
  try simp only [Act.put, List.setIfInBounds_toArray, List.set_cons_zero, List.set_cons_succ]
  refine wpAnyH_take (i := 16) (oi := { dst := some 108, op := Op.move (Operand.tmp 11), type := 25, pos := "law.go:43", after := #[{ on := 15, ground := Ground.guard }], guard := some (15, false) }) (v := ?_) rfl (by kernel_rfl) (by kernel_rfl) (by kernel_rfl) (fun _ _ _ h => h) (Or.inl ⟨by rfl, ?_⟩) (by assumption) ?_
  rotate_left
  · (intro wz hSw; (try dsimp only at hSw); go_simp; first | done | with_reducible rfl)
  try simp only [Act.put, List.setIfInBounds_toArray, List.set_cons_zero, List.set_cons_succ]
  refine wpAnyH_take (i := 17) (oi := { dst := some 109, op := Op.binOp BinOp.eql 25 (Operand.tmp 108) (Operand.const (Value.int IntKind.i64 0)) 25, type := 4, pos := "law.go:43", after := #[{ on := 16, ground := Ground.data }, { on := 15, ground := Ground.guard }], guard := some (15, false) }) (v := ?_) rfl (by kernel_rfl) (by kernel_rfl) (by kernel_rfl) (fun _ _ _ h => h) (Or.inl ⟨by rfl, ?_⟩) (by assumption) ?_
  rotate_left
  · (intro wz hSw; (try dsimp only at hSw); go_simp; first | done | with_reducible rfl)
  try simp only [Act.put, List.setIfInBounds_toArray, List.set_cons_zero, List.set_cons_succ]
  refine wpAnyH_take (i := 18) (oi := { dst := some 110, op := Op.move (Operand.tmp 109), type := 4, pos := "law.go:43", after := #[{ on := 17, ground := Ground.data }, { on := 15, ground := Ground.chain }, { on := 15, ground := Ground.guard }], guard := some (15, false) }) (v := ?_) rfl (by kernel_rfl) (by kernel_rfl) (by kernel_rfl) (fun _ _ _ h => h) (Or.inl ⟨by rfl, ?_⟩) (by assumption) ?_
  rotate_left
  · (intro wz hSw; (try dsimp only at hSw); go_simp; first | done | with_reducible rfl)
  try simp only [Act.put, List.setIfInBounds_toArray, List.set_cons_zero, List.set_cons_succ]
  refine wpAnyH_take (i := 19) (oi := { dst := some 111, op := Op.load 24 (Operand.tmp 14), type := 24, pos := "law.go:43", after := #[{ on := 18, ground := Ground.guard }], guard := some (18, true) }) (v := ?_) rfl (by kernel_rfl) (by kernel_rfl) (by kernel_rfl) (fun _ _ _ h => h) (Or.inl ⟨by rfl, ?_⟩) (by assumption) ?_
  rotate_left
  · (intro wz hSw; (try dsimp only at hSw); go_simp; first | done | with_reducible rfl)
  try simp only [Act.put, List.setIfInBounds_toArray, List.set_cons_zero, List.set_cons_succ]
  refine wpAnyH_take (i := 20) (oi := { dst := some 112, op := Op.move (Operand.tmp 0), type := 3, pos := "law.go:43", after := #[{ on := 18, ground := Ground.guard }], guard := some (18, true) }) (v := ?_) rfl (by kernel_rfl) (by kernel_rfl) (by kernel_rfl) (fun _ _ _ h => h) (Or.inl ⟨by rfl, ?_⟩) (by assumption) ?_
  rotate_left
  · (intro wz hSw; (try dsimp only at hSw); go_simp; first | done | with_reducible rfl)
  try simp only [Act.put, List.setIfInBounds_toArray, List.set_cons_zero, List.set_cons_succ]
  refine wpAnyH_take (i := 21) (oi := { dst := some 113, op := Op.move (Operand.tmp 2), type := 22, pos := "law.go:43", after := #[{ on := 18, ground := Ground.guard }], guard := some (18, true) }) (v := ?_) rfl (by kernel_rfl) (by kernel_rfl) (by kernel_rfl) (fun _ _ _ h => h) (Or.inl ⟨by rfl, ?_⟩) (by assumption) ?_
  rotate_left
  · (intro wz hSw; (try dsimp only at hSw); go_simp; first | done | with_reducible rfl)
  try simp only [Act.put, List.setIfInBounds_toArray, List.set_cons_zero, List.set_cons_succ]
  refine wpAnyH_ready (rs := [22]) (by kernel_rfl) (by simp) ?_
  refine AllReadyH.cons (o := { dst := some 114, op := Op.call { callee := Callee.value (Operand.func 12), args := #[Operand.tmp 112, Operand.tmp 113], argTypes := #[3, 22] }, type := 24, pos := "law.go:43", after := #[{ on := 20, ground := Ground.data }, { on := 21, ground := Ground.data }, { on := 18, ground := Ground.chain }, { on := 18, ground := Ground.guard }], guard := some (18, true) }) rfl (fun Kw hKw => ?_) AllReadyH.nil
  go_simp
  ((go_at_call 12; with_reducible refine (c_rOf k q _ HQ.out).mono ?_; rintro e w8 ⟨rfl, hk8⟩))
  (try go_wp2_with fail)
  refine hKw.out _ _ ?_ (fun hHeld3 => ?_)
  · refine ⟨?_, ?_, ?_, ?_⟩ <;> exact keepc hk8 (by first | assumption | (simp [go_sem]; done) | (simp [go_sem, *]; done))
  clear hKw Kw hHeld2
  try simp only [Act.put, List.setIfInBounds_toArray, List.set_cons_zero, List.set_cons_succ]
  refine wpAnyH_take (i := 23) (oi := { dst := some 115, op := Op.binOp BinOp.neq 24 (Operand.tmp 111) (Operand.tmp 114) 24, type := 4, pos := "law.go:43", after := #[{ on := 19, ground := Ground.data }, { on := 22, ground := Ground.data }, { on := 18, ground := Ground.guard }], guard := some (18, true) }) (v := ?_) rfl (by kernel_rfl) (by kernel_rfl) (by kernel_rfl) (fun _ _ _ h => h) (Or.inl ⟨by rfl, ?_⟩) (by assumption) ?_
  rotate_left
  · (intro wz hSw; (try dsimp only at hSw); go_simp; first | done | with_reducible rfl)
  try simp only [Act.put, List.setIfInBounds_toArray, List.set_cons_zero, List.set_cons_succ]
  refine wpAnyH_take (i := 24) (oi := { dst := some 116, op := Op.pick (Operand.tmp 110) (Operand.tmp 115) (Operand.const (Value.bool false)), type := 4, pos := "law.go:43", after := #[{ on := 18, ground := Ground.data }, { on := 23, ground := Ground.data }, { on := 15, ground := Ground.guard }], guard := some (15, false) }) (v := ?_) rfl (by kernel_rfl) (by kernel_rfl) (by kernel_rfl) (fun _ _ _ h => h) (Or.inl ⟨by rfl, ?_⟩) (by assumption) ?_
  rotate_left
  · (intro wz hSw; (try dsimp only at hSw); go_simp; first | done | with_reducible rfl)
  try simp only [Act.put, List.setIfInBounds_toArray, List.set_cons_zero, List.set_cons_succ]
  refine wpAnyH_take (i := 25) (oi := { dst := some 117, op := Op.pick (Operand.tmp 107) (Operand.const (Value.bool true)) (Operand.tmp 116), type := 4, pos := "law.go:43", after := #[{ on := 15, ground := Ground.data }, { on := 24, ground := Ground.data }], guard := none }) (v := ?_) rfl (by kernel_rfl) (by kernel_rfl) (by kernel_rfl) (fun _ _ _ h => h) (Or.inl ⟨by rfl, ?_⟩) (by assumption) ?_
  rotate_left
  · (intro wz hSw; (try dsimp only at hSw); go_simp; first | done | with_reducible rfl)
  try simp only [Act.put, List.setIfInBounds_toArray, List.set_cons_zero, List.set_cons_succ]
  refine wpAnyH_done (by kernel_rfl) ?_ _
  obtain ⟨hx0, hx1, hz0, hz1⟩ := hHeld3
  go_wp2_with (first | ((go_at_call 8; with_reducible refine (c_Const b n _ HN.out.1).mono ?_; rintro e wc ⟨rfl, hkc9⟩; have hx0 := keepc hkc9 (b := w.heap.size) (o := 0) (v := .bool b) (by first | assumption | (simp [go_sem]; done) | (simp [go_sem, *]; done)); have hx1 := keepc hkc9 (b := w.heap.size) (o := 1) (v := .int .u64 n) (by first | assumption | (simp [go_sem]; done) | (simp [go_sem, *]; done)))) | ((go_at_call 13; with_reducible refine (c_In k b n _ hwh).mono ?_; rintro e wi ⟨rfl, hki9⟩; have hx0 := keepc hki9 (b := w.heap.size) (o := 0) (v := .bool b) (by first | assumption | (simp [go_sem]; done) | (simp [go_sem, *]; done)); have hx1 := keepc hki9 (b := w.heap.size) (o := 1) (v := .int .u64 n) (by first | assumption | (simp [go_sem]; done) | (simp [go_sem, *]; done)))) | ((go_at_call 14; with_reducible refine (c_Word b n _).mono ?_; rintro e wj ⟨rfl, hkj9⟩)))
  go_ret
  exact ⟨rfl, (by (repeat (first | exact Below.refl _ _ | refine bb (by assumption) ?_ | refine kbb (by assumption) ?_ | refine ab ?_ _ _ | refine sb ?_ (by first | omega | (simp; done) | (simp; omega)) _ | refine db ?_)))⟩
set_option maxRecDepth 100000 in
set_option maxHeartbeats 12800000 in
theorem kw_Eg (k : Int) (b : Bool) (n q : Int) (w : World) (hn : 0 ≤ n ∧ n < 18446744073709551616) (hq : 0 ≤ q ∧ q < 18446744073709551616) (hkc : kc b n = true) (hwh : wh k = true) (htab : TabP w) (hi : iz k q = true) (he : e1 k q = 0) (hin : inV k b n = true)
    (h1 : ∀ w, Calls Tryd.prog 4 #[.int .i64 k, .bool b, .int .u64 n] w fun e w' => e = .returned (.tuple #[.int .u64 (wd b n), .int .i64 0]) ∧ Kp w w')
    (h2 : ∀ w, Calls Tryd.prog 5 #[.int .i64 k, .int .u64 q] w fun e w' => e = .returned (.tuple #[.bool (ng k q), .int .u64 (sz k q), .int .i64 0]) ∧ Kp w w') :
    Calls Tryd.prog 3 #[.int .i64 k, .agg #[.bool b, .int .u64 n], .int .u64 q] w fun e w' => e = .returned (.bool true) ∧ Below w.heap.size w w' := by
  have HN := Lib.hid hn
  have HQ := Lib.hid hq
  have H1 := Lib.hid h1
  have H2 := Lib.hid h2
  have HX := Lib.hid (fun (w' : World) (h : Kp w w') => tab_kp htab h)
  clear hn hq h1 h2 htab
  go_enter Tryd.func3, Tryd.ntmps3
  go_wp2_with (first | ((go_at_call 4; with_reducible refine (H1.out _).mono ?_; rintro e w1 ⟨rfl, hk⟩; have hx0 := keepc hk (b := w.heap.size) (o := 0) (v := .bool b) (by first | assumption | (simp [go_sem]; done) | (simp [go_sem, *]; done)); have hx1 := keepc hk (b := w.heap.size) (o := 1) (v := .int .u64 n) (by first | assumption | (simp [go_sem]; done) | (simp [go_sem, *]; done)); have HK1 := Lib.hid (show Kp w w1 from (by (repeat (first | exact Kp.refl _ | refine kback (by assumption) ?_ | refine Kp.setCell ?_ (by first | omega | (simp; done) | (simp; omega)) _ | refine Kp.alloc ?_ _ _ | refine Kp.drewN ?_ _ | refine Kp.drew ?_)))))) | ((go_at_call 5; with_reducible refine (H2.out _).mono ?_; rintro e w2 ⟨rfl, hk⟩; have hx0 := keepc hk (b := w.heap.size) (o := 0) (v := .bool b) (by first | assumption | (simp [go_sem]; done) | (simp [go_sem, *]; done)); have hx1 := keepc hk (b := w.heap.size) (o := 1) (v := .int .u64 n) (by first | assumption | (simp [go_sem]; done) | (simp [go_sem, *]; done)); have HK2 := Lib.hid (show Kp w w2 from HK1.out.trans hk); have hw20 := hx0)) | ((go_at_call 6; with_reducible refine (x_good b n _ HN.out hkc (HX.out _ HK2.out)).mono ?_; rintro e w3 ⟨rfl, hb⟩; have hx0 := keepb hb (b := w.heap.size) (o := 0) (v := .bool b) (by first | assumption | (simp [go_sem]; done) | (simp [go_sem, *]; done)); have hx1 := keepb hb (b := w.heap.size) (o := 1) (v := .int .u64 n) (by first | assumption | (simp [go_sem]; done) | (simp [go_sem, *]; done)); have hs3 : w.heap.size < w3.heap.size := (by have h9 := hb.size; have h8 := HK1.out.below.size; have h7 := HK2.out.below.size; have h6 : w.heap.size < w2.heap.size := (by apply Classical.byContradiction; intro hx; have : w2.heap[w.heap.size]? = none := (by simp; omega); simp [World.cell?, this] at hw20); omega))) | ((go_at_call 7; with_reducible refine (c_answers _).mono ?_; rintro e w4 ⟨rfl, hk⟩; have hx0 := keepc hk (b := w.heap.size) (o := 0) (v := .bool b) (by first | assumption | (simp [go_sem]; done) | (simp [go_sem, *]; done)); have hx1 := keepc hk (b := w.heap.size) (o := 1) (v := .int .u64 n) (by first | assumption | (simp [go_sem]; done) | (simp [go_sem, *]; done)))) | ((go_at_call 8; with_reducible refine (c_Const b n w4 HN.out.1).mono ?_; rintro e w5 ⟨rfl, hk⟩; have hx0 := keepc hk (b := w.heap.size) (o := 0) (v := .bool b) (by first | assumption | (simp [go_sem]; done) | (simp [go_sem, *]; done)); have hx1 := keepc hk (b := w.heap.size) (o := 1) (v := .int .u64 n) (by first | assumption | (simp [go_sem]; done) | (simp [go_sem, *]; done)))) | ((go_at_call 9; with_reducible refine (c_Dig n b w5 HN.out).mono ?_; rintro e w6 ⟨rfl, hk⟩; have hx0 := keepc hk (b := w.heap.size) (o := 0) (v := .bool b) (by first | assumption | (simp [go_sem]; done) | (simp [go_sem, *]; done)); have hx1 := keepc hk (b := w.heap.size) (o := 1) (v := .int .u64 n) (by first | assumption | (simp [go_sem]; done) | (simp [go_sem, *]; done)))) | ((go_at_call 10; with_reducible refine (c_Whole _ _).mono ?_; rintro e wW ⟨rfl, rfl⟩)))
  have hsz : w.heap.size < w6.heap.size := by
    apply Classical.byContradiction; intro hx; have : w6.heap[w.heap.size]? = none := (by simp; omega); simp [World.cell?, this] at hx0
  have hnz : ¬ w.heap.size = w6.heap.size := by omega
  refine wp_region_held_drew (S := fun w'' => w''.cell? ⟨w.heap.size, 0, none⟩ = some (.bool b) ∧ w''.cell? ⟨w.heap.size, 1, none⟩ = some (.int .u64 n) ∧ w''.cell? ⟨w6.heap.size, 0, none⟩ = some (.bool (ng k q)) ∧ w''.cell? ⟨w6.heap.size, 1, none⟩ = some (.int .u64 (sz k q))) (by kernel_rfl) (by refine ⟨?_, ?_, ?_, ?_⟩ <;> first | assumption | (simp [go_sem]; done) | (simp [go_sem, *]; done)) (fun hHeld0 => ?_)
  refine wpAnyH_take (i := 0) (oi := { dst := some 92, op := Op.move (Operand.tmp 11), type := 25, pos := "law.go:43", after := #[], guard := none }) (v := ?_) rfl (by kernel_rfl) (by kernel_rfl) (by kernel_rfl) (fun _ _ _ h => h) (Or.inl ⟨by rfl, ?_⟩) (by assumption) ?_
  rotate_left
  · (intro wz hSw; (try dsimp only at hSw); go_simp; first | done | with_reducible rfl)
  try simp only [Act.put, List.setIfInBounds_toArray, List.set_cons_zero, List.set_cons_succ]
  refine wpAnyH_take (i := 1) (oi := { dst := some 93, op := Op.move (Operand.tmp 0), type := 3, pos := "law.go:43", after := #[], guard := none }) (v := ?_) rfl (by kernel_rfl) (by kernel_rfl) (by kernel_rfl) (fun _ _ _ h => h) (Or.inl ⟨by rfl, ?_⟩) (by assumption) ?_
  rotate_left
  · (intro wz hSw; (try dsimp only at hSw); go_simp; first | done | with_reducible rfl)
  try simp only [Act.put, List.setIfInBounds_toArray, List.set_cons_zero, List.set_cons_succ]
  refine wpAnyH_take (i := 2) (oi := { dst := some 94, op := Op.move (Operand.tmp 2), type := 22, pos := "law.go:43", after := #[], guard := none }) (v := ?_) rfl (by kernel_rfl) (by kernel_rfl) (by kernel_rfl) (fun _ _ _ h => h) (Or.inl ⟨by rfl, ?_⟩) (by assumption) ?_
  rotate_left
  · (intro wz hSw; (try dsimp only at hSw); go_simp; first | done | with_reducible rfl)
  try simp only [Act.put, List.setIfInBounds_toArray, List.set_cons_zero, List.set_cons_succ]
  refine wpAnyH_ready (rs := [3]) (by kernel_rfl) (by simp) ?_
  refine AllReadyH.cons (o := { dst := some 95, op := Op.buildSlice 52 1 #[(0, Operand.tmp 94)], type := 52, pos := "law.go:43", after := #[{ on := 2, ground := Ground.data }], guard := none }) rfl (fun Kw hKw => ?_) AllReadyH.nil
  go_simp
  (try go_wp2_with fail)
  refine hKw.out _ _ ?_ (fun hHeld1 => ?_)
  · refine ⟨?_, ?_, ?_, ?_⟩ <;> first | assumption | (simp [go_sem]; done) | (simp [go_sem, *]; done)
  clear hKw Kw hHeld0
  try simp only [Act.put, List.setIfInBounds_toArray, List.set_cons_zero, List.set_cons_succ]
  refine wpAnyH_ready (rs := [4]) (by kernel_rfl) (by simp) ?_
  refine AllReadyH.cons (o := { dst := some 96, op := Op.call { callee := Callee.value (Operand.func 11), args := #[Operand.tmp 93, Operand.tmp 95], argTypes := #[3, 52] }, type := 25, pos := "law.go:43", after := #[{ on := 1, ground := Ground.data }, { on := 3, ground := Ground.data }], guard := none }) rfl (fun Kw hKw => ?_) AllReadyH.nil
  go_simp
  ((go_at_call 11; with_reducible refine (c_Bad1 k q _ _ HQ.out ?_).mono ?_; (focus (first | (simp [go_sem]; done) | (simp [go_sem, *]; done))); rintro e w7 ⟨rfl, rfl⟩))
  (try go_wp2_with fail)
  refine hKw.out _ _ ?_ (fun hHeld2 => ?_)
  · refine ⟨?_, ?_, ?_, ?_⟩ <;> first | assumption | (simp [go_sem]; done) | (simp [go_sem, *]; done)
  clear hKw Kw hHeld1
  try simp only [Act.put, List.setIfInBounds_toArray, List.set_cons_zero, List.set_cons_succ]
  refine wpAnyH_take (i := 5) (oi := { dst := some 97, op := Op.binOp BinOp.neq 25 (Operand.tmp 92) (Operand.tmp 96) 25, type := 4, pos := "law.go:43", after := #[{ on := 0, ground := Ground.data }, { on := 4, ground := Ground.data }], guard := none }) (v := ?_) rfl (by kernel_rfl) (by kernel_rfl) (by kernel_rfl) (fun _ _ _ h => h) (Or.inl ⟨by rfl, ?_⟩) (by assumption) ?_
  rotate_left
  · (intro wz hSw; (try dsimp only at hSw); go_simp; first | done | with_reducible rfl)
  try simp only [Act.put, List.setIfInBounds_toArray, List.set_cons_zero, List.set_cons_succ]
  refine wpAnyH_take (i := 6) (oi := { dst := some 98, op := Op.move (Operand.tmp 97), type := 4, pos := "law.go:43", after := #[{ on := 5, ground := Ground.data }, { on := 4, ground := Ground.chain }], guard := none }) (v := ?_) rfl (by kernel_rfl) (by kernel_rfl) (by kernel_rfl) (fun _ _ _ h => h) (Or.inl ⟨by rfl, ?_⟩) (by assumption) ?_
  rotate_left
  · (intro wz hSw; (try dsimp only at hSw); go_simp; first | done | with_reducible rfl)
  try simp only [Act.put, List.setIfInBounds_toArray, List.set_cons_zero, List.set_cons_succ]
  refine wpAnyH_take (i := 7) (oi := { dst := some 99, op := Op.move (Operand.tmp 11), type := 25, pos := "law.go:43", after := #[{ on := 6, ground := Ground.guard }], guard := some (6, false) }) (v := ?_) rfl (by kernel_rfl) (by kernel_rfl) (by kernel_rfl) (fun _ _ _ h => h) (Or.inl ⟨by rfl, ?_⟩) (by assumption) ?_
  rotate_left
  · (intro wz hSw; (try dsimp only at hSw); go_simp; first | done | with_reducible rfl)
  try simp only [Act.put, List.setIfInBounds_toArray, List.set_cons_zero, List.set_cons_succ]
  refine wpAnyH_take (i := 8) (oi := { dst := some 100, op := Op.binOp BinOp.neq 25 (Operand.tmp 99) (Operand.const (Value.int IntKind.i64 0)) 25, type := 4, pos := "law.go:43", after := #[{ on := 7, ground := Ground.data }, { on := 6, ground := Ground.guard }], guard := some (6, false) }) (v := ?_) rfl (by kernel_rfl) (by kernel_rfl) (by kernel_rfl) (fun _ _ _ h => h) (Or.inl ⟨by rfl, ?_⟩) (by assumption) ?_
  rotate_left
  · (intro wz hSw; (try dsimp only at hSw); go_simp; first | done | with_reducible rfl)
  try simp only [Act.put, List.setIfInBounds_toArray, List.set_cons_zero, List.set_cons_succ]
  refine wpAnyH_take (i := 9) (oi := { dst := some 101, op := Op.move (Operand.tmp 100), type := 4, pos := "law.go:43", after := #[{ on := 8, ground := Ground.data }, { on := 6, ground := Ground.chain }, { on := 6, ground := Ground.guard }], guard := some (6, false) }) (v := ?_) rfl (by kernel_rfl) (by kernel_rfl) (by kernel_rfl) (fun _ _ _ h => h) (Or.inl ⟨by rfl, ?_⟩) (by assumption) ?_
  rotate_left
  · (intro wz hSw; (try dsimp only at hSw); go_simp; first | done | with_reducible rfl)
  try simp only [Act.put, List.setIfInBounds_toArray, List.set_cons_zero, List.set_cons_succ]
  refine wpAnyH_take (i := 10) (oi := { dst := some 102, op := Op.load 24 (Operand.tmp 14), type := 24, pos := "law.go:43", after := #[{ on := 9, ground := Ground.guard }], guard := some (9, true) }) (v := undef) rfl (by kernel_rfl) (by kernel_rfl) (by kernel_rfl) (fun _ _ _ h => h) (Or.inr ⟨by rfl, rfl⟩) (by assumption) ?_
  try simp only [Act.put, List.setIfInBounds_toArray, List.set_cons_zero, List.set_cons_succ]
  refine wpAnyH_take (i := 11) (oi := { dst := some 103, op := Op.build 24 #[], type := 24, pos := "law.go:43", after := #[{ on := 9, ground := Ground.guard }], guard := some (9, true) }) (v := undef) rfl (by kernel_rfl) (by kernel_rfl) (by kernel_rfl) (fun _ _ _ h => h) (Or.inr ⟨by rfl, rfl⟩) (by assumption) ?_
  try simp only [Act.put, List.setIfInBounds_toArray, List.set_cons_zero, List.set_cons_succ]
  refine wpAnyH_take (i := 12) (oi := { dst := some 104, op := Op.binOp BinOp.neq 24 (Operand.tmp 102) (Operand.tmp 103) 24, type := 4, pos := "law.go:43", after := #[{ on := 10, ground := Ground.data }, { on := 11, ground := Ground.data }, { on := 9, ground := Ground.guard }], guard := some (9, true) }) (v := undef) rfl (by kernel_rfl) (by kernel_rfl) (by kernel_rfl) (fun _ _ _ h => h) (Or.inr ⟨by rfl, rfl⟩) (by assumption) ?_
  try simp only [Act.put, List.setIfInBounds_toArray, List.set_cons_zero, List.set_cons_succ]
  refine wpAnyH_take (i := 13) (oi := { dst := some 105, op := Op.pick (Operand.tmp 101) (Operand.tmp 104) (Operand.const (Value.bool false)), type := 4, pos := "law.go:43", after := #[{ on := 9, ground := Ground.data }, { on := 12, ground := Ground.data }, { on := 6, ground := Ground.guard }], guard := some (6, false) }) (v := ?_) rfl (by kernel_rfl) (by kernel_rfl) (by kernel_rfl) (fun _ _ _ h => h) (Or.inl ⟨by rfl, ?_⟩) (by assumption) ?_
  rotate_left
  · (intro wz hSw; (try dsimp only at hSw); go_simp; first | done | with_reducible rfl)
  try simp only [Act.put, List.setIfInBounds_toArray, List.set_cons_zero, List.set_cons_succ]
  refine wpAnyH_take (i := 14) (oi := { dst := some 106, op := Op.pick (Operand.tmp 98) (Operand.const (Value.bool true)) (Operand.tmp 105), type := 4, pos := "law.go:43", after := #[{ on := 6, ground := Ground.data }, { on := 13, ground := Ground.data }], guard := none }) (v := ?_) rfl (by kernel_rfl) (by kernel_rfl) (by kernel_rfl) (fun _ _ _ h => h) (Or.inl ⟨by rfl, ?_⟩) (by assumption) ?_
  rotate_left
  · (intro wz hSw; (try dsimp only at hSw); go_simp; first | done | with_reducible rfl)
  try simp only [Act.put, List.setIfInBounds_toArray, List.set_cons_zero, List.set_cons_succ]
  refine wpAnyH_take (i := 15) (oi := { dst := some 107, op := Op.move (Operand.tmp 106), type := 4, pos := "law.go:43", after := #[{ on := 14, ground := Ground.data }, { on := 9, ground := Ground.chain }], guard := none }) (v := ?_) rfl (by kernel_rfl) (by kernel_rfl) (by kernel_rfl) (fun _ _ _ h => h) (Or.inl ⟨by rfl, ?_⟩) (by assumption) ?_
  rotate_left
  · (intro wz hSw; (try dsimp only at hSw); go_simp; first | done | with_reducible rfl)
  try simp only [Act.put, List.setIfInBounds_toArray, List.set_cons_zero, List.set_cons_succ]
  refine wpAnyH_take (i := 16) (oi := { dst := some 108, op := Op.move (Operand.tmp 11), type := 25, pos := "law.go:43", after := #[{ on := 15, ground := Ground.guard }], guard := some (15, false) }) (v := ?_) rfl (by kernel_rfl) (by kernel_rfl) (by kernel_rfl) (fun _ _ _ h => h) (Or.inl ⟨by rfl, ?_⟩) (by assumption) ?_
  rotate_left
  · (intro wz hSw; (try dsimp only at hSw); go_simp; first | done | with_reducible rfl)
  try simp only [Act.put, List.setIfInBounds_toArray, List.set_cons_zero, List.set_cons_succ]
  refine wpAnyH_take (i := 17) (oi := { dst := some 109, op := Op.binOp BinOp.eql 25 (Operand.tmp 108) (Operand.const (Value.int IntKind.i64 0)) 25, type := 4, pos := "law.go:43", after := #[{ on := 16, ground := Ground.data }, { on := 15, ground := Ground.guard }], guard := some (15, false) }) (v := ?_) rfl (by kernel_rfl) (by kernel_rfl) (by kernel_rfl) (fun _ _ _ h => h) (Or.inl ⟨by rfl, ?_⟩) (by assumption) ?_
  rotate_left
  · (intro wz hSw; (try dsimp only at hSw); go_simp; first | done | with_reducible rfl)
  try simp only [Act.put, List.setIfInBounds_toArray, List.set_cons_zero, List.set_cons_succ]
  refine wpAnyH_take (i := 18) (oi := { dst := some 110, op := Op.move (Operand.tmp 109), type := 4, pos := "law.go:43", after := #[{ on := 17, ground := Ground.data }, { on := 15, ground := Ground.chain }, { on := 15, ground := Ground.guard }], guard := some (15, false) }) (v := ?_) rfl (by kernel_rfl) (by kernel_rfl) (by kernel_rfl) (fun _ _ _ h => h) (Or.inl ⟨by rfl, ?_⟩) (by assumption) ?_
  rotate_left
  · (intro wz hSw; (try dsimp only at hSw); go_simp; first | done | with_reducible rfl)
  try simp only [Act.put, List.setIfInBounds_toArray, List.set_cons_zero, List.set_cons_succ]
  refine wpAnyH_take (i := 19) (oi := { dst := some 111, op := Op.load 24 (Operand.tmp 14), type := 24, pos := "law.go:43", after := #[{ on := 18, ground := Ground.guard }], guard := some (18, true) }) (v := ?_) rfl (by kernel_rfl) (by kernel_rfl) (by kernel_rfl) (fun _ _ _ h => h) (Or.inl ⟨by rfl, ?_⟩) (by assumption) ?_
  rotate_left
  · (intro wz hSw; (try dsimp only at hSw); go_simp; first | done | with_reducible rfl)
  try simp only [Act.put, List.setIfInBounds_toArray, List.set_cons_zero, List.set_cons_succ]
  refine wpAnyH_take (i := 20) (oi := { dst := some 112, op := Op.move (Operand.tmp 0), type := 3, pos := "law.go:43", after := #[{ on := 18, ground := Ground.guard }], guard := some (18, true) }) (v := ?_) rfl (by kernel_rfl) (by kernel_rfl) (by kernel_rfl) (fun _ _ _ h => h) (Or.inl ⟨by rfl, ?_⟩) (by assumption) ?_
  rotate_left
  · (intro wz hSw; (try dsimp only at hSw); go_simp; first | done | with_reducible rfl)
  try simp only [Act.put, List.setIfInBounds_toArray, List.set_cons_zero, List.set_cons_succ]
  refine wpAnyH_take (i := 21) (oi := { dst := some 113, op := Op.move (Operand.tmp 2), type := 22, pos := "law.go:43", after := #[{ on := 18, ground := Ground.guard }], guard := some (18, true) }) (v := ?_) rfl (by kernel_rfl) (by kernel_rfl) (by kernel_rfl) (fun _ _ _ h => h) (Or.inl ⟨by rfl, ?_⟩) (by assumption) ?_
  rotate_left
  · (intro wz hSw; (try dsimp only at hSw); go_simp; first | done | with_reducible rfl)
  try simp only [Act.put, List.setIfInBounds_toArray, List.set_cons_zero, List.set_cons_succ]
  refine wpAnyH_ready (rs := [22]) (by kernel_rfl) (by simp) ?_
  refine AllReadyH.cons (o := { dst := some 114, op := Op.call { callee := Callee.value (Operand.func 12), args := #[Operand.tmp 112, Operand.tmp 113], argTypes := #[3, 22] }, type := 24, pos := "law.go:43", after := #[{ on := 20, ground := Ground.data }, { on := 21, ground := Ground.data }, { on := 18, ground := Ground.chain }, { on := 18, ground := Ground.guard }], guard := some (18, true) }) rfl (fun Kw hKw => ?_) AllReadyH.nil
  go_simp
  ((go_at_call 12; with_reducible refine (c_rOf k q _ HQ.out).mono ?_; rintro e w8 ⟨rfl, hk8⟩))
  (try go_wp2_with fail)
  refine hKw.out _ _ ?_ (fun hHeld3 => ?_)
  · refine ⟨?_, ?_, ?_, ?_⟩ <;> exact keepc hk8 (by first | assumption | (simp [go_sem]; done) | (simp [go_sem, *]; done))
  clear hKw Kw hHeld2
  try simp only [Act.put, List.setIfInBounds_toArray, List.set_cons_zero, List.set_cons_succ]
  refine wpAnyH_take (i := 23) (oi := { dst := some 115, op := Op.binOp BinOp.neq 24 (Operand.tmp 111) (Operand.tmp 114) 24, type := 4, pos := "law.go:43", after := #[{ on := 19, ground := Ground.data }, { on := 22, ground := Ground.data }, { on := 18, ground := Ground.guard }], guard := some (18, true) }) (v := ?_) rfl (by kernel_rfl) (by kernel_rfl) (by kernel_rfl) (fun _ _ _ h => h) (Or.inl ⟨by rfl, ?_⟩) (by assumption) ?_
  rotate_left
  · (intro wz hSw; (try dsimp only at hSw); go_simp; first | done | with_reducible rfl)
  try simp only [Act.put, List.setIfInBounds_toArray, List.set_cons_zero, List.set_cons_succ]
  refine wpAnyH_take (i := 24) (oi := { dst := some 116, op := Op.pick (Operand.tmp 110) (Operand.tmp 115) (Operand.const (Value.bool false)), type := 4, pos := "law.go:43", after := #[{ on := 18, ground := Ground.data }, { on := 23, ground := Ground.data }, { on := 15, ground := Ground.guard }], guard := some (15, false) }) (v := ?_) rfl (by kernel_rfl) (by kernel_rfl) (by kernel_rfl) (fun _ _ _ h => h) (Or.inl ⟨by rfl, ?_⟩) (by assumption) ?_
  rotate_left
  · (intro wz hSw; (try dsimp only at hSw); go_simp; first | done | with_reducible rfl)
  try simp only [Act.put, List.setIfInBounds_toArray, List.set_cons_zero, List.set_cons_succ]
  refine wpAnyH_take (i := 25) (oi := { dst := some 117, op := Op.pick (Operand.tmp 107) (Operand.const (Value.bool true)) (Operand.tmp 116), type := 4, pos := "law.go:43", after := #[{ on := 15, ground := Ground.data }, { on := 24, ground := Ground.data }], guard := none }) (v := ?_) rfl (by kernel_rfl) (by kernel_rfl) (by kernel_rfl) (fun _ _ _ h => h) (Or.inl ⟨by rfl, ?_⟩) (by assumption) ?_
  rotate_left
  · (intro wz hSw; (try dsimp only at hSw); go_simp; first | done | with_reducible rfl)
  try simp only [Act.put, List.setIfInBounds_toArray, List.set_cons_zero, List.set_cons_succ]
  refine wpAnyH_done (by kernel_rfl) ?_ _
  obtain ⟨hx0, hx1, hz0, hz1⟩ := hHeld3
  go_wp2_with (first | ((go_at_call 8; with_reducible refine (c_Const b n _ HN.out.1).mono ?_; rintro e wc ⟨rfl, hkc9⟩; have hx0 := keepc hkc9 (b := w.heap.size) (o := 0) (v := .bool b) (by first | assumption | (simp [go_sem]; done) | (simp [go_sem, *]; done)); have hx1 := keepc hkc9 (b := w.heap.size) (o := 1) (v := .int .u64 n) (by first | assumption | (simp [go_sem]; done) | (simp [go_sem, *]; done)))) | ((go_at_call 13; with_reducible refine (c_In k b n _ hwh).mono ?_; rintro e wi ⟨rfl, hki9⟩; have hx0 := keepc hki9 (b := w.heap.size) (o := 0) (v := .bool b) (by first | assumption | (simp [go_sem]; done) | (simp [go_sem, *]; done)); have hx1 := keepc hki9 (b := w.heap.size) (o := 1) (v := .int .u64 n) (by first | assumption | (simp [go_sem]; done) | (simp [go_sem, *]; done)))) | ((go_at_call 14; with_reducible refine (c_Word b n _).mono ?_; rintro e wj ⟨rfl, hkj9⟩)))
  go_ret
  exact ⟨rfl, (by (repeat (first | exact Below.refl _ _ | refine bb (by assumption) ?_ | refine kbb (by assumption) ?_ | refine ab ?_ _ _ | refine sb ?_ (by first | omega | (simp; done) | (simp; omega)) _ | refine db ?_)))⟩
set_option maxRecDepth 100000 in
set_option maxHeartbeats 12800000 in
theorem kw_Cf (k : Int) (b : Bool) (n q : Int) (w : World) (hn : 0 ≤ n ∧ n < 18446744073709551616) (hq : 0 ≤ q ∧ q < 18446744073709551616) (hkc : kc b n = false) (hwh : wh k = true) (htab : TabP w) (hi : iz k q = false) (he : e1 k q = 1)
    (h1 : ∀ w, Calls Tryd.prog 4 #[.int .i64 k, .bool b, .int .u64 n] w fun e w' => e = .returned (.tuple #[.int .u64 0, .int .i64 1]) ∧ Kp w w')
    (h2 : ∀ w, Calls Tryd.prog 5 #[.int .i64 k, .int .u64 q] w fun e w' => e = .returned (.tuple #[.bool false, .int .u64 0, .int .i64 1]) ∧ Kp w w') :
    Calls Tryd.prog 3 #[.int .i64 k, .agg #[.bool b, .int .u64 n], .int .u64 q] w fun e w' => e = .returned (.bool true) ∧ Below w.heap.size w w' := by
  have HN := Lib.hid hn
  have HQ := Lib.hid hq
  have H1 := Lib.hid h1
  have H2 := Lib.hid h2
  have HX := Lib.hid (fun (w' : World) (h : Kp w w') => tab_kp htab h)
  clear hn hq h1 h2 htab
  go_enter Tryd.func3, Tryd.ntmps3
  go_wp2_with (first | ((go_at_call 4; with_reducible refine (H1.out _).mono ?_; rintro e w1 ⟨rfl, hk⟩; have hx0 := keepc hk (b := w.heap.size) (o := 0) (v := .bool b) (by first | assumption | (simp [go_sem]; done) | (simp [go_sem, *]; done)); have hx1 := keepc hk (b := w.heap.size) (o := 1) (v := .int .u64 n) (by first | assumption | (simp [go_sem]; done) | (simp [go_sem, *]; done)); have HK1 := Lib.hid (show Kp w w1 from (by (repeat (first | exact Kp.refl _ | refine kback (by assumption) ?_ | refine Kp.setCell ?_ (by first | omega | (simp; done) | (simp; omega)) _ | refine Kp.alloc ?_ _ _ | refine Kp.drewN ?_ _ | refine Kp.drew ?_)))))) | ((go_at_call 5; with_reducible refine (H2.out _).mono ?_; rintro e w2 ⟨rfl, hk⟩; have hx0 := keepc hk (b := w.heap.size) (o := 0) (v := .bool b) (by first | assumption | (simp [go_sem]; done) | (simp [go_sem, *]; done)); have hx1 := keepc hk (b := w.heap.size) (o := 1) (v := .int .u64 n) (by first | assumption | (simp [go_sem]; done) | (simp [go_sem, *]; done)); have HK2 := Lib.hid (show Kp w w2 from HK1.out.trans hk); have hw20 := hx0)) | ((go_at_call 6; with_reducible refine (x_bad b n _ hkc).mono ?_; rintro e w3 ⟨rfl, hb⟩; have hx0 := keepb hb (b := w.heap.size) (o := 0) (v := .bool b) (by first | assumption | (simp [go_sem]; done) | (simp [go_sem, *]; done)); have hx1 := keepb hb (b := w.heap.size) (o := 1) (v := .int .u64 n) (by first | assumption | (simp [go_sem]; done) | (simp [go_sem, *]; done)))) | ((go_at_call 7; with_reducible refine (c_answers _).mono ?_; rintro e w4 ⟨rfl, hk⟩; have hx0 := keepc hk (b := w.heap.size) (o := 0) (v := .bool b) (by first | assumption | (simp [go_sem]; done) | (simp [go_sem, *]; done)); have hx1 := keepc hk (b := w.heap.size) (o := 1) (v := .int .u64 n) (by first | assumption | (simp [go_sem]; done) | (simp [go_sem, *]; done)))) | ((go_at_call 8; with_reducible refine (c_Const b n w4 HN.out.1).mono ?_; rintro e w5 ⟨rfl, hk⟩; have hx0 := keepc hk (b := w.heap.size) (o := 0) (v := .bool b) (by first | assumption | (simp [go_sem]; done) | (simp [go_sem, *]; done)); have hx1 := keepc hk (b := w.heap.size) (o := 1) (v := .int .u64 n) (by first | assumption | (simp [go_sem]; done) | (simp [go_sem, *]; done)))) | ((go_at_call 10; with_reducible refine (c_Whole _ _).mono ?_; rintro e wW ⟨rfl, rfl⟩)))
  have hsz : w.heap.size < w5.heap.size := by
    apply Classical.byContradiction; intro hx; have : w5.heap[w.heap.size]? = none := (by simp; omega); simp [World.cell?, this] at hx0
  have hnz : ¬ w.heap.size = w5.heap.size := by omega
  refine wp_region_held_drew (S := fun w'' => w''.cell? ⟨w.heap.size, 0, none⟩ = some (.bool b) ∧ w''.cell? ⟨w.heap.size, 1, none⟩ = some (.int .u64 n) ∧ w''.cell? ⟨w5.heap.size, 0, none⟩ = some (.bool false) ∧ w''.cell? ⟨w5.heap.size, 1, none⟩ = some (.int .u64 0)) (by kernel_rfl) (by refine ⟨?_, ?_, ?_, ?_⟩ <;> first | assumption | (simp [go_sem]; done) | (simp [go_sem, *]; done)) (fun hHeld0 => ?_)
  refine wpAnyH_take (i := 0) (oi := { dst := some 92, op := Op.move (Operand.tmp 11), type := 25, pos := "law.go:43", after := #[], guard := none }) (v := ?_) rfl (by kernel_rfl) (by kernel_rfl) (by kernel_rfl) (fun _ _ _ h => h) (Or.inl ⟨by rfl, ?_⟩) (by assumption) ?_
  rotate_left
  · (intro wz hSw; (try dsimp only at hSw); go_simp; first | done | with_reducible rfl)
  try simp only [Act.put, List.setIfInBounds_toArray, List.set_cons_zero, List.set_cons_succ]
  refine wpAnyH_take (i := 1) (oi := { dst := some 93, op := Op.move (Operand.tmp 0), type := 3, pos := "law.go:43", after := #[], guard := none }) (v := ?_) rfl (by kernel_rfl) (by kernel_rfl) (by kernel_rfl) (fun _ _ _ h => h) (Or.inl ⟨by rfl, ?_⟩) (by assumption) ?_
  rotate_left
  · (intro wz hSw; (try dsimp only at hSw); go_simp; first | done | with_reducible rfl)
  try simp only [Act.put, List.setIfInBounds_toArray, List.set_cons_zero, List.set_cons_succ]
  refine wpAnyH_take (i := 2) (oi := { dst := some 94, op := Op.move (Operand.tmp 2), type := 22, pos := "law.go:43", after := #[], guard := none }) (v := ?_) rfl (by kernel_rfl) (by kernel_rfl) (by kernel_rfl) (fun _ _ _ h => h) (Or.inl ⟨by rfl, ?_⟩) (by assumption) ?_
  rotate_left
  · (intro wz hSw; (try dsimp only at hSw); go_simp; first | done | with_reducible rfl)
  try simp only [Act.put, List.setIfInBounds_toArray, List.set_cons_zero, List.set_cons_succ]
  refine wpAnyH_ready (rs := [3]) (by kernel_rfl) (by simp) ?_
  refine AllReadyH.cons (o := { dst := some 95, op := Op.buildSlice 52 1 #[(0, Operand.tmp 94)], type := 52, pos := "law.go:43", after := #[{ on := 2, ground := Ground.data }], guard := none }) rfl (fun Kw hKw => ?_) AllReadyH.nil
  go_simp
  (try go_wp2_with fail)
  refine hKw.out _ _ ?_ (fun hHeld1 => ?_)
  · refine ⟨?_, ?_, ?_, ?_⟩ <;> first | assumption | (simp [go_sem]; done) | (simp [go_sem, *]; done)
  clear hKw Kw hHeld0
  try simp only [Act.put, List.setIfInBounds_toArray, List.set_cons_zero, List.set_cons_succ]
  refine wpAnyH_ready (rs := [4]) (by kernel_rfl) (by simp) ?_
  refine AllReadyH.cons (o := { dst := some 96, op := Op.call { callee := Callee.value (Operand.func 11), args := #[Operand.tmp 93, Operand.tmp 95], argTypes := #[3, 52] }, type := 25, pos := "law.go:43", after := #[{ on := 1, ground := Ground.data }, { on := 3, ground := Ground.data }], guard := none }) rfl (fun Kw hKw => ?_) AllReadyH.nil
  go_simp
  ((go_at_call 11; with_reducible refine (c_Bad1 k q _ _ HQ.out ?_).mono ?_; (focus (first | (simp [go_sem]; done) | (simp [go_sem, *]; done))); rintro e w7 ⟨rfl, rfl⟩))
  (try go_wp2_with fail)
  refine hKw.out _ _ ?_ (fun hHeld2 => ?_)
  · refine ⟨?_, ?_, ?_, ?_⟩ <;> first | assumption | (simp [go_sem]; done) | (simp [go_sem, *]; done)
  clear hKw Kw hHeld1
  try simp only [Act.put, List.setIfInBounds_toArray, List.set_cons_zero, List.set_cons_succ]
  refine wpAnyH_take (i := 5) (oi := { dst := some 97, op := Op.binOp BinOp.neq 25 (Operand.tmp 92) (Operand.tmp 96) 25, type := 4, pos := "law.go:43", after := #[{ on := 0, ground := Ground.data }, { on := 4, ground := Ground.data }], guard := none }) (v := ?_) rfl (by kernel_rfl) (by kernel_rfl) (by kernel_rfl) (fun _ _ _ h => h) (Or.inl ⟨by rfl, ?_⟩) (by assumption) ?_
  rotate_left
  · (intro wz hSw; (try dsimp only at hSw); go_simp; first | done | with_reducible rfl)
  try simp only [Act.put, List.setIfInBounds_toArray, List.set_cons_zero, List.set_cons_succ]
  refine wpAnyH_take (i := 6) (oi := { dst := some 98, op := Op.move (Operand.tmp 97), type := 4, pos := "law.go:43", after := #[{ on := 5, ground := Ground.data }, { on := 4, ground := Ground.chain }], guard := none }) (v := ?_) rfl (by kernel_rfl) (by kernel_rfl) (by kernel_rfl) (fun _ _ _ h => h) (Or.inl ⟨by rfl, ?_⟩) (by assumption) ?_
  rotate_left
  · (intro wz hSw; (try dsimp only at hSw); go_simp; first | done | with_reducible rfl)
  try simp only [Act.put, List.setIfInBounds_toArray, List.set_cons_zero, List.set_cons_succ]
  refine wpAnyH_take (i := 7) (oi := { dst := some 99, op := Op.move (Operand.tmp 11), type := 25, pos := "law.go:43", after := #[{ on := 6, ground := Ground.guard }], guard := some (6, false) }) (v := ?_) rfl (by kernel_rfl) (by kernel_rfl) (by kernel_rfl) (fun _ _ _ h => h) (Or.inl ⟨by rfl, ?_⟩) (by assumption) ?_
  rotate_left
  · (intro wz hSw; (try dsimp only at hSw); go_simp; first | done | with_reducible rfl)
  try simp only [Act.put, List.setIfInBounds_toArray, List.set_cons_zero, List.set_cons_succ]
  refine wpAnyH_take (i := 8) (oi := { dst := some 100, op := Op.binOp BinOp.neq 25 (Operand.tmp 99) (Operand.const (Value.int IntKind.i64 0)) 25, type := 4, pos := "law.go:43", after := #[{ on := 7, ground := Ground.data }, { on := 6, ground := Ground.guard }], guard := some (6, false) }) (v := ?_) rfl (by kernel_rfl) (by kernel_rfl) (by kernel_rfl) (fun _ _ _ h => h) (Or.inl ⟨by rfl, ?_⟩) (by assumption) ?_
  rotate_left
  · (intro wz hSw; (try dsimp only at hSw); go_simp; first | done | with_reducible rfl)
  try simp only [Act.put, List.setIfInBounds_toArray, List.set_cons_zero, List.set_cons_succ]
  refine wpAnyH_take (i := 9) (oi := { dst := some 101, op := Op.move (Operand.tmp 100), type := 4, pos := "law.go:43", after := #[{ on := 8, ground := Ground.data }, { on := 6, ground := Ground.chain }, { on := 6, ground := Ground.guard }], guard := some (6, false) }) (v := ?_) rfl (by kernel_rfl) (by kernel_rfl) (by kernel_rfl) (fun _ _ _ h => h) (Or.inl ⟨by rfl, ?_⟩) (by assumption) ?_
  rotate_left
  · (intro wz hSw; (try dsimp only at hSw); go_simp; first | done | with_reducible rfl)
  try simp only [Act.put, List.setIfInBounds_toArray, List.set_cons_zero, List.set_cons_succ]
  refine wpAnyH_take (i := 10) (oi := { dst := some 102, op := Op.load 24 (Operand.tmp 14), type := 24, pos := "law.go:43", after := #[{ on := 9, ground := Ground.guard }], guard := some (9, true) }) (v := ?_) rfl (by kernel_rfl) (by kernel_rfl) (by kernel_rfl) (fun _ _ _ h => h) (Or.inl ⟨by rfl, ?_⟩) (by assumption) ?_
  rotate_left
  · (intro wz hSw; (try dsimp only at hSw); go_simp; first | done | with_reducible rfl)
  try simp only [Act.put, List.setIfInBounds_toArray, List.set_cons_zero, List.set_cons_succ]
  refine wpAnyH_take (i := 11) (oi := { dst := some 103, op := Op.build 24 #[], type := 24, pos := "law.go:43", after := #[{ on := 9, ground := Ground.guard }], guard := some (9, true) }) (v := ?_) rfl (by kernel_rfl) (by kernel_rfl) (by kernel_rfl) (fun _ _ _ h => h) (Or.inl ⟨by rfl, ?_⟩) (by assumption) ?_
  rotate_left
  · (intro wz hSw; (try dsimp only at hSw); go_simp; first | done | with_reducible rfl)
  try simp only [Act.put, List.setIfInBounds_toArray, List.set_cons_zero, List.set_cons_succ]
  refine wpAnyH_take (i := 12) (oi := { dst := some 104, op := Op.binOp BinOp.neq 24 (Operand.tmp 102) (Operand.tmp 103) 24, type := 4, pos := "law.go:43", after := #[{ on := 10, ground := Ground.data }, { on := 11, ground := Ground.data }, { on := 9, ground := Ground.guard }], guard := some (9, true) }) (v := ?_) rfl (by kernel_rfl) (by kernel_rfl) (by kernel_rfl) (fun _ _ _ h => h) (Or.inl ⟨by rfl, ?_⟩) (by assumption) ?_
  rotate_left
  · (intro wz hSw; (try dsimp only at hSw); go_simp; first | done | with_reducible rfl)
  try simp only [Act.put, List.setIfInBounds_toArray, List.set_cons_zero, List.set_cons_succ]
  refine wpAnyH_take (i := 13) (oi := { dst := some 105, op := Op.pick (Operand.tmp 101) (Operand.tmp 104) (Operand.const (Value.bool false)), type := 4, pos := "law.go:43", after := #[{ on := 9, ground := Ground.data }, { on := 12, ground := Ground.data }, { on := 6, ground := Ground.guard }], guard := some (6, false) }) (v := ?_) rfl (by kernel_rfl) (by kernel_rfl) (by kernel_rfl) (fun _ _ _ h => h) (Or.inl ⟨by rfl, ?_⟩) (by assumption) ?_
  rotate_left
  · (intro wz hSw; (try dsimp only at hSw); go_simp; first | done | with_reducible rfl)
  try simp only [Act.put, List.setIfInBounds_toArray, List.set_cons_zero, List.set_cons_succ]
  refine wpAnyH_take (i := 14) (oi := { dst := some 106, op := Op.pick (Operand.tmp 98) (Operand.const (Value.bool true)) (Operand.tmp 105), type := 4, pos := "law.go:43", after := #[{ on := 6, ground := Ground.data }, { on := 13, ground := Ground.data }], guard := none }) (v := ?_) rfl (by kernel_rfl) (by kernel_rfl) (by kernel_rfl) (fun _ _ _ h => h) (Or.inl ⟨by rfl, ?_⟩) (by assumption) ?_
  rotate_left
  · (intro wz hSw; (try dsimp only at hSw); go_simp; first | done | with_reducible rfl)
  try simp only [Act.put, List.setIfInBounds_toArray, List.set_cons_zero, List.set_cons_succ]
  refine wpAnyH_take (i := 15) (oi := { dst := some 107, op := Op.move (Operand.tmp 106), type := 4, pos := "law.go:43", after := #[{ on := 14, ground := Ground.data }, { on := 9, ground := Ground.chain }], guard := none }) (v := ?_) rfl (by kernel_rfl) (by kernel_rfl) (by kernel_rfl) (fun _ _ _ h => h) (Or.inl ⟨by rfl, ?_⟩) (by assumption) ?_
  rotate_left
  · (intro wz hSw; (try dsimp only at hSw); go_simp; first | done | with_reducible rfl)
  try simp only [Act.put, List.setIfInBounds_toArray, List.set_cons_zero, List.set_cons_succ]
  refine wpAnyH_take (i := 16) (oi := { dst := some 108, op := Op.move (Operand.tmp 11), type := 25, pos := "law.go:43", after := #[{ on := 15, ground := Ground.guard }], guard := some (15, false) }) (v := ?_) rfl (by kernel_rfl) (by kernel_rfl) (by kernel_rfl) (fun _ _ _ h => h) (Or.inl ⟨by rfl, ?_⟩) (by assumption) ?_
  rotate_left
  · (intro wz hSw; (try dsimp only at hSw); go_simp; first | done | with_reducible rfl)
  try simp only [Act.put, List.setIfInBounds_toArray, List.set_cons_zero, List.set_cons_succ]
  refine wpAnyH_take (i := 17) (oi := { dst := some 109, op := Op.binOp BinOp.eql 25 (Operand.tmp 108) (Operand.const (Value.int IntKind.i64 0)) 25, type := 4, pos := "law.go:43", after := #[{ on := 16, ground := Ground.data }, { on := 15, ground := Ground.guard }], guard := some (15, false) }) (v := ?_) rfl (by kernel_rfl) (by kernel_rfl) (by kernel_rfl) (fun _ _ _ h => h) (Or.inl ⟨by rfl, ?_⟩) (by assumption) ?_
  rotate_left
  · (intro wz hSw; (try dsimp only at hSw); go_simp; first | done | with_reducible rfl)
  try simp only [Act.put, List.setIfInBounds_toArray, List.set_cons_zero, List.set_cons_succ]
  refine wpAnyH_take (i := 18) (oi := { dst := some 110, op := Op.move (Operand.tmp 109), type := 4, pos := "law.go:43", after := #[{ on := 17, ground := Ground.data }, { on := 15, ground := Ground.chain }, { on := 15, ground := Ground.guard }], guard := some (15, false) }) (v := ?_) rfl (by kernel_rfl) (by kernel_rfl) (by kernel_rfl) (fun _ _ _ h => h) (Or.inl ⟨by rfl, ?_⟩) (by assumption) ?_
  rotate_left
  · (intro wz hSw; (try dsimp only at hSw); go_simp; first | done | with_reducible rfl)
  try simp only [Act.put, List.setIfInBounds_toArray, List.set_cons_zero, List.set_cons_succ]
  refine wpAnyH_take (i := 19) (oi := { dst := some 111, op := Op.load 24 (Operand.tmp 14), type := 24, pos := "law.go:43", after := #[{ on := 18, ground := Ground.guard }], guard := some (18, true) }) (v := undef) rfl (by kernel_rfl) (by kernel_rfl) (by kernel_rfl) (fun _ _ _ h => h) (Or.inr ⟨by rfl, rfl⟩) (by assumption) ?_
  try simp only [Act.put, List.setIfInBounds_toArray, List.set_cons_zero, List.set_cons_succ]
  refine wpAnyH_take (i := 20) (oi := { dst := some 112, op := Op.move (Operand.tmp 0), type := 3, pos := "law.go:43", after := #[{ on := 18, ground := Ground.guard }], guard := some (18, true) }) (v := undef) rfl (by kernel_rfl) (by kernel_rfl) (by kernel_rfl) (fun _ _ _ h => h) (Or.inr ⟨by rfl, rfl⟩) (by assumption) ?_
  try simp only [Act.put, List.setIfInBounds_toArray, List.set_cons_zero, List.set_cons_succ]
  refine wpAnyH_take (i := 21) (oi := { dst := some 113, op := Op.move (Operand.tmp 2), type := 22, pos := "law.go:43", after := #[{ on := 18, ground := Ground.guard }], guard := some (18, true) }) (v := undef) rfl (by kernel_rfl) (by kernel_rfl) (by kernel_rfl) (fun _ _ _ h => h) (Or.inr ⟨by rfl, rfl⟩) (by assumption) ?_
  try simp only [Act.put, List.setIfInBounds_toArray, List.set_cons_zero, List.set_cons_succ]
  refine wpAnyH_take (i := 22) (oi := { dst := some 114, op := Op.call { callee := Callee.value (Operand.func 12), args := #[Operand.tmp 112, Operand.tmp 113], argTypes := #[3, 22] }, type := 24, pos := "law.go:43", after := #[{ on := 20, ground := Ground.data }, { on := 21, ground := Ground.data }, { on := 18, ground := Ground.chain }, { on := 18, ground := Ground.guard }], guard := some (18, true) }) (v := undef) rfl (by kernel_rfl) (by kernel_rfl) (by kernel_rfl) (fun _ _ _ h => h) (Or.inr ⟨by rfl, rfl⟩) (by assumption) ?_
  try simp only [Act.put, List.setIfInBounds_toArray, List.set_cons_zero, List.set_cons_succ]
  refine wpAnyH_take (i := 23) (oi := { dst := some 115, op := Op.binOp BinOp.neq 24 (Operand.tmp 111) (Operand.tmp 114) 24, type := 4, pos := "law.go:43", after := #[{ on := 19, ground := Ground.data }, { on := 22, ground := Ground.data }, { on := 18, ground := Ground.guard }], guard := some (18, true) }) (v := undef) rfl (by kernel_rfl) (by kernel_rfl) (by kernel_rfl) (fun _ _ _ h => h) (Or.inr ⟨by rfl, rfl⟩) (by assumption) ?_
  try simp only [Act.put, List.setIfInBounds_toArray, List.set_cons_zero, List.set_cons_succ]
  refine wpAnyH_take (i := 24) (oi := { dst := some 116, op := Op.pick (Operand.tmp 110) (Operand.tmp 115) (Operand.const (Value.bool false)), type := 4, pos := "law.go:43", after := #[{ on := 18, ground := Ground.data }, { on := 23, ground := Ground.data }, { on := 15, ground := Ground.guard }], guard := some (15, false) }) (v := ?_) rfl (by kernel_rfl) (by kernel_rfl) (by kernel_rfl) (fun _ _ _ h => h) (Or.inl ⟨by rfl, ?_⟩) (by assumption) ?_
  rotate_left
  · (intro wz hSw; (try dsimp only at hSw); go_simp; first | done | with_reducible rfl)
  try simp only [Act.put, List.setIfInBounds_toArray, List.set_cons_zero, List.set_cons_succ]
  refine wpAnyH_take (i := 25) (oi := { dst := some 117, op := Op.pick (Operand.tmp 107) (Operand.const (Value.bool true)) (Operand.tmp 116), type := 4, pos := "law.go:43", after := #[{ on := 15, ground := Ground.data }, { on := 24, ground := Ground.data }], guard := none }) (v := ?_) rfl (by kernel_rfl) (by kernel_rfl) (by kernel_rfl) (fun _ _ _ h => h) (Or.inl ⟨by rfl, ?_⟩) (by assumption) ?_
  rotate_left
  · (intro wz hSw; (try dsimp only at hSw); go_simp; first | done | with_reducible rfl)
  try simp only [Act.put, List.setIfInBounds_toArray, List.set_cons_zero, List.set_cons_succ]
  refine wpAnyH_done (by kernel_rfl) ?_ _
  obtain ⟨hx0, hx1, hz0, hz1⟩ := hHeld2
  go_wp2_with (first | ((go_at_call 8; with_reducible refine (c_Const b n _ HN.out.1).mono ?_; rintro e wc ⟨rfl, hkc9⟩; have hx0 := keepc hkc9 (b := w.heap.size) (o := 0) (v := .bool b) (by first | assumption | (simp [go_sem]; done) | (simp [go_sem, *]; done)); have hx1 := keepc hkc9 (b := w.heap.size) (o := 1) (v := .int .u64 n) (by first | assumption | (simp [go_sem]; done) | (simp [go_sem, *]; done)))))
  go_ret
  exact ⟨rfl, (by (repeat (first | exact Below.refl _ _ | refine bb (by assumption) ?_ | refine kbb (by assumption) ?_ | refine ab ?_ _ _ | refine sb ?_ (by first | omega | (simp; done) | (simp; omega)) _ | refine db ?_)))⟩
set_option maxRecDepth 100000 in
set_option maxHeartbeats 12800000 in
theorem kw_Df (k : Int) (b : Bool) (n q : Int) (w : World) (hn : 0 ≤ n ∧ n < 18446744073709551616) (hq : 0 ≤ q ∧ q < 18446744073709551616) (hkc : kc b n = true) (hwh : wh k = true) (htab : TabP w) (hi : iz k q = false) (he : e1 k q = 1) (hin : inV k b n = false)
    (h1 : ∀ w, Calls Tryd.prog 4 #[.int .i64 k, .bool b, .int .u64 n] w fun e w' => e = .returned (.tuple #[.int .u64 0, .int .i64 10]) ∧ Kp w w')
    (h2 : ∀ w, Calls Tryd.prog 5 #[.int .i64 k, .int .u64 q] w fun e w' => e = .returned (.tuple #[.bool false, .int .u64 0, .int .i64 1]) ∧ Kp w w') :
    Calls Tryd.prog 3 #[.int .i64 k, .agg #[.bool b, .int .u64 n], .int .u64 q] w fun e w' => e = .returned (.bool true) ∧ Below w.heap.size w w' := by
  have HN := Lib.hid hn
  have HQ := Lib.hid hq
  have H1 := Lib.hid h1
  have H2 := Lib.hid h2
  have HX := Lib.hid (fun (w' : World) (h : Kp w w') => tab_kp htab h)
  clear hn hq h1 h2 htab
  go_enter Tryd.func3, Tryd.ntmps3
  go_wp2_with (first | ((go_at_call 4; with_reducible refine (H1.out _).mono ?_; rintro e w1 ⟨rfl, hk⟩; have hx0 := keepc hk (b := w.heap.size) (o := 0) (v := .bool b) (by first | assumption | (simp [go_sem]; done) | (simp [go_sem, *]; done)); have hx1 := keepc hk (b := w.heap.size) (o := 1) (v := .int .u64 n) (by first | assumption | (simp [go_sem]; done) | (simp [go_sem, *]; done)); have HK1 := Lib.hid (show Kp w w1 from (by (repeat (first | exact Kp.refl _ | refine kback (by assumption) ?_ | refine Kp.setCell ?_ (by first | omega | (simp; done) | (simp; omega)) _ | refine Kp.alloc ?_ _ _ | refine Kp.drewN ?_ _ | refine Kp.drew ?_)))))) | ((go_at_call 5; with_reducible refine (H2.out _).mono ?_; rintro e w2 ⟨rfl, hk⟩; have hx0 := keepc hk (b := w.heap.size) (o := 0) (v := .bool b) (by first | assumption | (simp [go_sem]; done) | (simp [go_sem, *]; done)); have hx1 := keepc hk (b := w.heap.size) (o := 1) (v := .int .u64 n) (by first | assumption | (simp [go_sem]; done) | (simp [go_sem, *]; done)); have HK2 := Lib.hid (show Kp w w2 from HK1.out.trans hk); have hw20 := hx0)) | ((go_at_call 6; with_reducible refine (x_good b n _ HN.out hkc (HX.out _ HK2.out)).mono ?_; rintro e w3 ⟨rfl, hb⟩; have hx0 := keepb hb (b := w.heap.size) (o := 0) (v := .bool b) (by first | assumption | (simp [go_sem]; done) | (simp [go_sem, *]; done)); have hx1 := keepb hb (b := w.heap.size) (o := 1) (v := .int .u64 n) (by first | assumption | (simp [go_sem]; done) | (simp [go_sem, *]; done)); have hs3 : w.heap.size < w3.heap.size := (by have h9 := hb.size; have h8 := HK1.out.below.size; have h7 := HK2.out.below.size; have h6 : w.heap.size < w2.heap.size := (by apply Classical.byContradiction; intro hx; have : w2.heap[w.heap.size]? = none := (by simp; omega); simp [World.cell?, this] at hw20); omega))) | ((go_at_call 7; with_reducible refine (c_answers _).mono ?_; rintro e w4 ⟨rfl, hk⟩; have hx0 := keepc hk (b := w.heap.size) (o := 0) (v := .bool b) (by first | assumption | (simp [go_sem]; done) | (simp [go_sem, *]; done)); have hx1 := keepc hk (b := w.heap.size) (o := 1) (v := .int .u64 n) (by first | assumption | (simp [go_sem]; done) | (simp [go_sem, *]; done)))) | ((go_at_call 8; with_reducible refine (c_Const b n w4 HN.out.1).mono ?_; rintro e w5 ⟨rfl, hk⟩; have hx0 := keepc hk (b := w.heap.size) (o := 0) (v := .bool b) (by first | assumption | (simp [go_sem]; done) | (simp [go_sem, *]; done)); have hx1 := keepc hk (b := w.heap.size) (o := 1) (v := .int .u64 n) (by first | assumption | (simp [go_sem]; done) | (simp [go_sem, *]; done)))) | ((go_at_call 9; with_reducible refine (c_Dig n b w5 HN.out).mono ?_; rintro e w6 ⟨rfl, hk⟩; have hx0 := keepc hk (b := w.heap.size) (o := 0) (v := .bool b) (by first | assumption | (simp [go_sem]; done) | (simp [go_sem, *]; done)); have hx1 := keepc hk (b := w.heap.size) (o := 1) (v := .int .u64 n) (by first | assumption | (simp [go_sem]; done) | (simp [go_sem, *]; done)))) | ((go_at_call 10; with_reducible refine (c_Whole _ _).mono ?_; rintro e wW ⟨rfl, rfl⟩)))
  have hsz : w.heap.size < w6.heap.size := by
    apply Classical.byContradiction; intro hx; have : w6.heap[w.heap.size]? = none := (by simp; omega); simp [World.cell?, this] at hx0
  have hnz : ¬ w.heap.size = w6.heap.size := by omega
  refine wp_region_held_drew (S := fun w'' => w''.cell? ⟨w.heap.size, 0, none⟩ = some (.bool b) ∧ w''.cell? ⟨w.heap.size, 1, none⟩ = some (.int .u64 n) ∧ w''.cell? ⟨w6.heap.size, 0, none⟩ = some (.bool false) ∧ w''.cell? ⟨w6.heap.size, 1, none⟩ = some (.int .u64 0)) (by kernel_rfl) (by refine ⟨?_, ?_, ?_, ?_⟩ <;> first | assumption | (simp [go_sem]; done) | (simp [go_sem, *]; done)) (fun hHeld0 => ?_)
  refine wpAnyH_take (i := 0) (oi := { dst := some 92, op := Op.move (Operand.tmp 11), type := 25, pos := "law.go:43", after := #[], guard := none }) (v := ?_) rfl (by kernel_rfl) (by kernel_rfl) (by kernel_rfl) (fun _ _ _ h => h) (Or.inl ⟨by rfl, ?_⟩) (by assumption) ?_
  rotate_left
  · (intro wz hSw; (try dsimp only at hSw); go_simp; first | done | with_reducible rfl)
  try simp only [Act.put, List.setIfInBounds_toArray, List.set_cons_zero, List.set_cons_succ]
  refine wpAnyH_take (i := 1) (oi := { dst := some 93, op := Op.move (Operand.tmp 0), type := 3, pos := "law.go:43", after := #[], guard := none }) (v := ?_) rfl (by kernel_rfl) (by kernel_rfl) (by kernel_rfl) (fun _ _ _ h => h) (Or.inl ⟨by rfl, ?_⟩) (by assumption) ?_
  rotate_left
  · (intro wz hSw; (try dsimp only at hSw); go_simp; first | done | with_reducible rfl)
  try simp only [Act.put, List.setIfInBounds_toArray, List.set_cons_zero, List.set_cons_succ]
  refine wpAnyH_take (i := 2) (oi := { dst := some 94, op := Op.move (Operand.tmp 2), type := 22, pos := "law.go:43", after := #[], guard := none }) (v := ?_) rfl (by kernel_rfl) (by kernel_rfl) (by kernel_rfl) (fun _ _ _ h => h) (Or.inl ⟨by rfl, ?_⟩) (by assumption) ?_
  rotate_left
  · (intro wz hSw; (try dsimp only at hSw); go_simp; first | done | with_reducible rfl)
  try simp only [Act.put, List.setIfInBounds_toArray, List.set_cons_zero, List.set_cons_succ]
  refine wpAnyH_ready (rs := [3]) (by kernel_rfl) (by simp) ?_
  refine AllReadyH.cons (o := { dst := some 95, op := Op.buildSlice 52 1 #[(0, Operand.tmp 94)], type := 52, pos := "law.go:43", after := #[{ on := 2, ground := Ground.data }], guard := none }) rfl (fun Kw hKw => ?_) AllReadyH.nil
  go_simp
  (try go_wp2_with fail)
  refine hKw.out _ _ ?_ (fun hHeld1 => ?_)
  · refine ⟨?_, ?_, ?_, ?_⟩ <;> first | assumption | (simp [go_sem]; done) | (simp [go_sem, *]; done)
  clear hKw Kw hHeld0
  try simp only [Act.put, List.setIfInBounds_toArray, List.set_cons_zero, List.set_cons_succ]
  refine wpAnyH_ready (rs := [4]) (by kernel_rfl) (by simp) ?_
  refine AllReadyH.cons (o := { dst := some 96, op := Op.call { callee := Callee.value (Operand.func 11), args := #[Operand.tmp 93, Operand.tmp 95], argTypes := #[3, 52] }, type := 25, pos := "law.go:43", after := #[{ on := 1, ground := Ground.data }, { on := 3, ground := Ground.data }], guard := none }) rfl (fun Kw hKw => ?_) AllReadyH.nil
  go_simp
  ((go_at_call 11; with_reducible refine (c_Bad1 k q _ _ HQ.out ?_).mono ?_; (focus (first | (simp [go_sem]; done) | (simp [go_sem, *]; done))); rintro e w7 ⟨rfl, rfl⟩))
  (try go_wp2_with fail)
  refine hKw.out _ _ ?_ (fun hHeld2 => ?_)
  · refine ⟨?_, ?_, ?_, ?_⟩ <;> first | assumption | (simp [go_sem]; done) | (simp [go_sem, *]; done)
  clear hKw Kw hHeld1
  try simp only [Act.put, List.setIfInBounds_toArray, List.set_cons_zero, List.set_cons_succ]
  refine wpAnyH_take (i := 5) (oi := { dst := some 97, op := Op.binOp BinOp.neq 25 (Operand.tmp 92) (Operand.tmp 96) 25, type := 4, pos := "law.go:43", after := #[{ on := 0, ground := Ground.data }, { on := 4, ground := Ground.data }], guard := none }) (v := ?_) rfl (by kernel_rfl) (by kernel_rfl) (by kernel_rfl) (fun _ _ _ h => h) (Or.inl ⟨by rfl, ?_⟩) (by assumption) ?_
  rotate_left
  · (intro wz hSw; (try dsimp only at hSw); go_simp; first | done | with_reducible rfl)
  try simp only [Act.put, List.setIfInBounds_toArray, List.set_cons_zero, List.set_cons_succ]
  refine wpAnyH_take (i := 6) (oi := { dst := some 98, op := Op.move (Operand.tmp 97), type := 4, pos := "law.go:43", after := #[{ on := 5, ground := Ground.data }, { on := 4, ground := Ground.chain }], guard := none }) (v := ?_) rfl (by kernel_rfl) (by kernel_rfl) (by kernel_rfl) (fun _ _ _ h => h) (Or.inl ⟨by rfl, ?_⟩) (by assumption) ?_
  rotate_left
  · (intro wz hSw; (try dsimp only at hSw); go_simp; first | done | with_reducible rfl)
  try simp only [Act.put, List.setIfInBounds_toArray, List.set_cons_zero, List.set_cons_succ]
  refine wpAnyH_take (i := 7) (oi := { dst := some 99, op := Op.move (Operand.tmp 11), type := 25, pos := "law.go:43", after := #[{ on := 6, ground := Ground.guard }], guard := some (6, false) }) (v := ?_) rfl (by kernel_rfl) (by kernel_rfl) (by kernel_rfl) (fun _ _ _ h => h) (Or.inl ⟨by rfl, ?_⟩) (by assumption) ?_
  rotate_left
  · (intro wz hSw; (try dsimp only at hSw); go_simp; first | done | with_reducible rfl)
  try simp only [Act.put, List.setIfInBounds_toArray, List.set_cons_zero, List.set_cons_succ]
  refine wpAnyH_take (i := 8) (oi := { dst := some 100, op := Op.binOp BinOp.neq 25 (Operand.tmp 99) (Operand.const (Value.int IntKind.i64 0)) 25, type := 4, pos := "law.go:43", after := #[{ on := 7, ground := Ground.data }, { on := 6, ground := Ground.guard }], guard := some (6, false) }) (v := ?_) rfl (by kernel_rfl) (by kernel_rfl) (by kernel_rfl) (fun _ _ _ h => h) (Or.inl ⟨by rfl, ?_⟩) (by assumption) ?_
  rotate_left
  · (intro wz hSw; (try dsimp only at hSw); go_simp; first | done | with_reducible rfl)
  try simp only [Act.put, List.setIfInBounds_toArray, List.set_cons_zero, List.set_cons_succ]
  refine wpAnyH_take (i := 9) (oi := { dst := some 101, op := Op.move (Operand.tmp 100), type := 4, pos := "law.go:43", after := #[{ on := 8, ground := Ground.data }, { on := 6, ground := Ground.chain }, { on := 6, ground := Ground.guard }], guard := some (6, false) }) (v := ?_) rfl (by kernel_rfl) (by kernel_rfl) (by kernel_rfl) (fun _ _ _ h => h) (Or.inl ⟨by rfl, ?_⟩) (by assumption) ?_
  rotate_left
  · (intro wz hSw; (try dsimp only at hSw); go_simp; first | done | with_reducible rfl)
  try simp only [Act.put, List.setIfInBounds_toArray, List.set_cons_zero, List.set_cons_succ]
  refine wpAnyH_take (i := 10) (oi := { dst := some 102, op := Op.load 24 (Operand.tmp 14), type := 24, pos := "law.go:43", after := #[{ on := 9, ground := Ground.guard }], guard := some (9, true) }) (v := ?_) rfl (by kernel_rfl) (by kernel_rfl) (by kernel_rfl) (fun _ _ _ h => h) (Or.inl ⟨by rfl, ?_⟩) (by assumption) ?_
  rotate_left
  · (intro wz hSw; (try dsimp only at hSw); go_simp; first | done | with_reducible rfl)
  try simp only [Act.put, List.setIfInBounds_toArray, List.set_cons_zero, List.set_cons_succ]
  refine wpAnyH_take (i := 11) (oi := { dst := some 103, op := Op.build 24 #[], type := 24, pos := "law.go:43", after := #[{ on := 9, ground := Ground.guard }], guard := some (9, true) }) (v := ?_) rfl (by kernel_rfl) (by kernel_rfl) (by kernel_rfl) (fun _ _ _ h => h) (Or.inl ⟨by rfl, ?_⟩) (by assumption) ?_
  rotate_left
  · (intro wz hSw; (try dsimp only at hSw); go_simp; first | done | with_reducible rfl)
  try simp only [Act.put, List.setIfInBounds_toArray, List.set_cons_zero, List.set_cons_succ]
  refine wpAnyH_take (i := 12) (oi := { dst := some 104, op := Op.binOp BinOp.neq 24 (Operand.tmp 102) (Operand.tmp 103) 24, type := 4, pos := "law.go:43", after := #[{ on := 10, ground := Ground.data }, { on := 11, ground := Ground.data }, { on := 9, ground := Ground.guard }], guard := some (9, true) }) (v := ?_) rfl (by kernel_rfl) (by kernel_rfl) (by kernel_rfl) (fun _ _ _ h => h) (Or.inl ⟨by rfl, ?_⟩) (by assumption) ?_
  rotate_left
  · (intro wz hSw; (try dsimp only at hSw); go_simp; first | done | with_reducible rfl)
  try simp only [Act.put, List.setIfInBounds_toArray, List.set_cons_zero, List.set_cons_succ]
  refine wpAnyH_take (i := 13) (oi := { dst := some 105, op := Op.pick (Operand.tmp 101) (Operand.tmp 104) (Operand.const (Value.bool false)), type := 4, pos := "law.go:43", after := #[{ on := 9, ground := Ground.data }, { on := 12, ground := Ground.data }, { on := 6, ground := Ground.guard }], guard := some (6, false) }) (v := ?_) rfl (by kernel_rfl) (by kernel_rfl) (by kernel_rfl) (fun _ _ _ h => h) (Or.inl ⟨by rfl, ?_⟩) (by assumption) ?_
  rotate_left
  · (intro wz hSw; (try dsimp only at hSw); go_simp; first | done | with_reducible rfl)
  try simp only [Act.put, List.setIfInBounds_toArray, List.set_cons_zero, List.set_cons_succ]
  refine wpAnyH_take (i := 14) (oi := { dst := some 106, op := Op.pick (Operand.tmp 98) (Operand.const (Value.bool true)) (Operand.tmp 105), type := 4, pos := "law.go:43", after := #[{ on := 6, ground := Ground.data }, { on := 13, ground := Ground.data }], guard := none }) (v := ?_) rfl (by kernel_rfl) (by kernel_rfl) (by kernel_rfl) (fun _ _ _ h => h) (Or.inl ⟨by rfl, ?_⟩) (by assumption) ?_
  rotate_left
  · (intro wz hSw; (try dsimp only at hSw); go_simp; first | done | with_reducible rfl)
  try simp only [Act.put, List.setIfInBounds_toArray, List.set_cons_zero, List.set_cons_succ]
  refine wpAnyH_take (i := 15) (oi := { dst := some 107, op := Op.move (Operand.tmp 106), type := 4, pos := "law.go:43", after := #[{ on := 14, ground := Ground.data }, { on := 9, ground := Ground.chain }], guard := none }) (v := ?_) rfl (by kernel_rfl) (by kernel_rfl) (by kernel_rfl) (fun _ _ _ h => h) (Or.inl ⟨by rfl, ?_⟩) (by assumption) ?_
  rotate_left
  · (intro wz hSw; (try dsimp only at hSw); go_simp; first | done | with_reducible rfl)
  try simp only [Act.put, List.setIfInBounds_toArray, List.set_cons_zero, List.set_cons_succ]
  refine wpAnyH_take (i := 16) (oi := { dst := some 108, op := Op.move (Operand.tmp 11), type := 25, pos := "law.go:43", after := #[{ on := 15, ground := Ground.guard }], guard := some (15, false) }) (v := ?_) rfl (by kernel_rfl) (by kernel_rfl) (by kernel_rfl) (fun _ _ _ h => h) (Or.inl ⟨by rfl, ?_⟩) (by assumption) ?_
  rotate_left
  · (intro wz hSw; (try dsimp only at hSw); go_simp; first | done | with_reducible rfl)
  try simp only [Act.put, List.setIfInBounds_toArray, List.set_cons_zero, List.set_cons_succ]
  refine wpAnyH_take (i := 17) (oi := { dst := some 109, op := Op.binOp BinOp.eql 25 (Operand.tmp 108) (Operand.const (Value.int IntKind.i64 0)) 25, type := 4, pos := "law.go:43", after := #[{ on := 16, ground := Ground.data }, { on := 15, ground := Ground.guard }], guard := some (15, false) }) (v := ?_) rfl (by kernel_rfl) (by kernel_rfl) (by kernel_rfl) (fun _ _ _ h => h) (Or.inl ⟨by rfl, ?_⟩) (by assumption) ?_
  rotate_left
  · (intro wz hSw; (try dsimp only at hSw); go_simp; first | done | with_reducible rfl)
  try simp only [Act.put, List.setIfInBounds_toArray, List.set_cons_zero, List.set_cons_succ]
  refine wpAnyH_take (i := 18) (oi := { dst := some 110, op := Op.move (Operand.tmp 109), type := 4, pos := "law.go:43", after := #[{ on := 17, ground := Ground.data }, { on := 15, ground := Ground.chain }, { on := 15, ground := Ground.guard }], guard := some (15, false) }) (v := ?_) rfl (by kernel_rfl) (by kernel_rfl) (by kernel_rfl) (fun _ _ _ h => h) (Or.inl ⟨by rfl, ?_⟩) (by assumption) ?_
  rotate_left
  · (intro wz hSw; (try dsimp only at hSw); go_simp; first | done | with_reducible rfl)
  try simp only [Act.put, List.setIfInBounds_toArray, List.set_cons_zero, List.set_cons_succ]
  refine wpAnyH_take (i := 19) (oi := { dst := some 111, op := Op.load 24 (Operand.tmp 14), type := 24, pos := "law.go:43", after := #[{ on := 18, ground := Ground.guard }], guard := some (18, true) }) (v := undef) rfl (by kernel_rfl) (by kernel_rfl) (by kernel_rfl) (fun _ _ _ h => h) (Or.inr ⟨by rfl, rfl⟩) (by assumption) ?_
  try simp only [Act.put, List.setIfInBounds_toArray, List.set_cons_zero, List.set_cons_succ]
  refine wpAnyH_take (i := 20) (oi := { dst := some 112, op := Op.move (Operand.tmp 0), type := 3, pos := "law.go:43", after := #[{ on := 18, ground := Ground.guard }], guard := some (18, true) }) (v := undef) rfl (by kernel_rfl) (by kernel_rfl) (by kernel_rfl) (fun _ _ _ h => h) (Or.inr ⟨by rfl, rfl⟩) (by assumption) ?_
  try simp only [Act.put, List.setIfInBounds_toArray, List.set_cons_zero, List.set_cons_succ]
  refine wpAnyH_take (i := 21) (oi := { dst := some 113, op := Op.move (Operand.tmp 2), type := 22, pos := "law.go:43", after := #[{ on := 18, ground := Ground.guard }], guard := some (18, true) }) (v := undef) rfl (by kernel_rfl) (by kernel_rfl) (by kernel_rfl) (fun _ _ _ h => h) (Or.inr ⟨by rfl, rfl⟩) (by assumption) ?_
  try simp only [Act.put, List.setIfInBounds_toArray, List.set_cons_zero, List.set_cons_succ]
  refine wpAnyH_take (i := 22) (oi := { dst := some 114, op := Op.call { callee := Callee.value (Operand.func 12), args := #[Operand.tmp 112, Operand.tmp 113], argTypes := #[3, 22] }, type := 24, pos := "law.go:43", after := #[{ on := 20, ground := Ground.data }, { on := 21, ground := Ground.data }, { on := 18, ground := Ground.chain }, { on := 18, ground := Ground.guard }], guard := some (18, true) }) (v := undef) rfl (by kernel_rfl) (by kernel_rfl) (by kernel_rfl) (fun _ _ _ h => h) (Or.inr ⟨by rfl, rfl⟩) (by assumption) ?_
  try simp only [Act.put, List.setIfInBounds_toArray, List.set_cons_zero, List.set_cons_succ]
  refine wpAnyH_take (i := 23) (oi := { dst := some 115, op := Op.binOp BinOp.neq 24 (Operand.tmp 111) (Operand.tmp 114) 24, type := 4, pos := "law.go:43", after := #[{ on := 19, ground := Ground.data }, { on := 22, ground := Ground.data }, { on := 18, ground := Ground.guard }], guard := some (18, true) }) (v := undef) rfl (by kernel_rfl) (by kernel_rfl) (by kernel_rfl) (fun _ _ _ h => h) (Or.inr ⟨by rfl, rfl⟩) (by assumption) ?_
  try simp only [Act.put, List.setIfInBounds_toArray, List.set_cons_zero, List.set_cons_succ]
  refine wpAnyH_take (i := 24) (oi := { dst := some 116, op := Op.pick (Operand.tmp 110) (Operand.tmp 115) (Operand.const (Value.bool false)), type := 4, pos := "law.go:43", after := #[{ on := 18, ground := Ground.data }, { on := 23, ground := Ground.data }, { on := 15, ground := Ground.guard }], guard := some (15, false) }) (v := ?_) rfl (by kernel_rfl) (by kernel_rfl) (by kernel_rfl) (fun _ _ _ h => h) (Or.inl ⟨by rfl, ?_⟩) (by assumption) ?_
  rotate_left
  · (intro wz hSw; (try dsimp only at hSw); go_simp; first | done | with_reducible rfl)
  try simp only [Act.put, List.setIfInBounds_toArray, List.set_cons_zero, List.set_cons_succ]
  refine wpAnyH_take (i := 25) (oi := { dst := some 117, op := Op.pick (Operand.tmp 107) (Operand.const (Value.bool true)) (Operand.tmp 116), type := 4, pos := "law.go:43", after := #[{ on := 15, ground := Ground.data }, { on := 24, ground := Ground.data }], guard := none }) (v := ?_) rfl (by kernel_rfl) (by kernel_rfl) (by kernel_rfl) (fun _ _ _ h => h) (Or.inl ⟨by rfl, ?_⟩) (by assumption) ?_
  rotate_left
  · (intro wz hSw; (try dsimp only at hSw); go_simp; first | done | with_reducible rfl)
  try simp only [Act.put, List.setIfInBounds_toArray, List.set_cons_zero, List.set_cons_succ]
  refine wpAnyH_done (by kernel_rfl) ?_ _
  obtain ⟨hx0, hx1, hz0, hz1⟩ := hHeld2
  go_wp2_with (first | ((go_at_call 8; with_reducible refine (c_Const b n _ HN.out.1).mono ?_; rintro e wc ⟨rfl, hkc9⟩; have hx0 := keepc hkc9 (b := w.heap.size) (o := 0) (v := .bool b) (by first | assumption | (simp [go_sem]; done) | (simp [go_sem, *]; done)); have hx1 := keepc hkc9 (b := w.heap.size) (o := 1) (v := .int .u64 n) (by first | assumption | (simp [go_sem]; done) | (simp [go_sem, *]; done)))) | ((go_at_call 13; with_reducible refine (c_In k b n _ hwh).mono ?_; rintro e wi ⟨rfl, hki9⟩; have hx0 := keepc hki9 (b := w.heap.size) (o := 0) (v := .bool b) (by first | assumption | (simp [go_sem]; done) | (simp [go_sem, *]; done)); have hx1 := keepc hki9 (b := w.heap.size) (o := 1) (v := .int .u64 n) (by first | assumption | (simp [go_sem]; done) | (simp [go_sem, *]; done)))) | ((go_at_call 14; with_reducible refine (c_Word b n _).mono ?_; rintro e wj ⟨rfl, hkj9⟩)))
  go_ret
  exact ⟨rfl, (by (repeat (first | exact Below.refl _ _ | refine bb (by assumption) ?_ | refine kbb (by assumption) ?_ | refine ab ?_ _ _ | refine sb ?_ (by first | omega | (simp; done) | (simp; omega)) _ | refine db ?_)))⟩
set_option maxRecDepth 100000 in
set_option maxHeartbeats 12800000 in
theorem kw_Ef (k : Int) (b : Bool) (n q : Int) (w : World) (hn : 0 ≤ n ∧ n < 18446744073709551616) (hq : 0 ≤ q ∧ q < 18446744073709551616) (hkc : kc b n = true) (hwh : wh k = true) (htab : TabP w) (hi : iz k q = false) (he : e1 k q = 1) (hin : inV k b n = true)
    (h1 : ∀ w, Calls Tryd.prog 4 #[.int .i64 k, .bool b, .int .u64 n] w fun e w' => e = .returned (.tuple #[.int .u64 (wd b n), .int .i64 0]) ∧ Kp w w')
    (h2 : ∀ w, Calls Tryd.prog 5 #[.int .i64 k, .int .u64 q] w fun e w' => e = .returned (.tuple #[.bool false, .int .u64 0, .int .i64 1]) ∧ Kp w w') :
    Calls Tryd.prog 3 #[.int .i64 k, .agg #[.bool b, .int .u64 n], .int .u64 q] w fun e w' => e = .returned (.bool true) ∧ Below w.heap.size w w' := by
  have HN := Lib.hid hn
  have HQ := Lib.hid hq
  have H1 := Lib.hid h1
  have H2 := Lib.hid h2
  have HX := Lib.hid (fun (w' : World) (h : Kp w w') => tab_kp htab h)
  clear hn hq h1 h2 htab
  go_enter Tryd.func3, Tryd.ntmps3
  go_wp2_with (first | ((go_at_call 4; with_reducible refine (H1.out _).mono ?_; rintro e w1 ⟨rfl, hk⟩; have hx0 := keepc hk (b := w.heap.size) (o := 0) (v := .bool b) (by first | assumption | (simp [go_sem]; done) | (simp [go_sem, *]; done)); have hx1 := keepc hk (b := w.heap.size) (o := 1) (v := .int .u64 n) (by first | assumption | (simp [go_sem]; done) | (simp [go_sem, *]; done)); have HK1 := Lib.hid (show Kp w w1 from (by (repeat (first | exact Kp.refl _ | refine kback (by assumption) ?_ | refine Kp.setCell ?_ (by first | omega | (simp; done) | (simp; omega)) _ | refine Kp.alloc ?_ _ _ | refine Kp.drewN ?_ _ | refine Kp.drew ?_)))))) | ((go_at_call 5; with_reducible refine (H2.out _).mono ?_; rintro e w2 ⟨rfl, hk⟩; have hx0 := keepc hk (b := w.heap.size) (o := 0) (v := .bool b) (by first | assumption | (simp [go_sem]; done) | (simp [go_sem, *]; done)); have hx1 := keepc hk (b := w.heap.size) (o := 1) (v := .int .u64 n) (by first | assumption | (simp [go_sem]; done) | (simp [go_sem, *]; done)); have HK2 := Lib.hid (show Kp w w2 from HK1.out.trans hk); have hw20 := hx0)) | ((go_at_call 6; with_reducible refine (x_good b n _ HN.out hkc (HX.out _ HK2.out)).mono ?_; rintro e w3 ⟨rfl, hb⟩; have hx0 := keepb hb (b := w.heap.size) (o := 0) (v := .bool b) (by first | assumption | (simp [go_sem]; done) | (simp [go_sem, *]; done)); have hx1 := keepb hb (b := w.heap.size) (o := 1) (v := .int .u64 n) (by first | assumption | (simp [go_sem]; done) | (simp [go_sem, *]; done)); have hs3 : w.heap.size < w3.heap.size := (by have h9 := hb.size; have h8 := HK1.out.below.size; have h7 := HK2.out.below.size; have h6 : w.heap.size < w2.heap.size := (by apply Classical.byContradiction; intro hx; have : w2.heap[w.heap.size]? = none := (by simp; omega); simp [World.cell?, this] at hw20); omega))) | ((go_at_call 7; with_reducible refine (c_answers _).mono ?_; rintro e w4 ⟨rfl, hk⟩; have hx0 := keepc hk (b := w.heap.size) (o := 0) (v := .bool b) (by first | assumption | (simp [go_sem]; done) | (simp [go_sem, *]; done)); have hx1 := keepc hk (b := w.heap.size) (o := 1) (v := .int .u64 n) (by first | assumption | (simp [go_sem]; done) | (simp [go_sem, *]; done)))) | ((go_at_call 8; with_reducible refine (c_Const b n w4 HN.out.1).mono ?_; rintro e w5 ⟨rfl, hk⟩; have hx0 := keepc hk (b := w.heap.size) (o := 0) (v := .bool b) (by first | assumption | (simp [go_sem]; done) | (simp [go_sem, *]; done)); have hx1 := keepc hk (b := w.heap.size) (o := 1) (v := .int .u64 n) (by first | assumption | (simp [go_sem]; done) | (simp [go_sem, *]; done)))) | ((go_at_call 9; with_reducible refine (c_Dig n b w5 HN.out).mono ?_; rintro e w6 ⟨rfl, hk⟩; have hx0 := keepc hk (b := w.heap.size) (o := 0) (v := .bool b) (by first | assumption | (simp [go_sem]; done) | (simp [go_sem, *]; done)); have hx1 := keepc hk (b := w.heap.size) (o := 1) (v := .int .u64 n) (by first | assumption | (simp [go_sem]; done) | (simp [go_sem, *]; done)))) | ((go_at_call 10; with_reducible refine (c_Whole _ _).mono ?_; rintro e wW ⟨rfl, rfl⟩)))
  have hsz : w.heap.size < w6.heap.size := by
    apply Classical.byContradiction; intro hx; have : w6.heap[w.heap.size]? = none := (by simp; omega); simp [World.cell?, this] at hx0
  have hnz : ¬ w.heap.size = w6.heap.size := by omega
  refine wp_region_held_drew (S := fun w'' => w''.cell? ⟨w.heap.size, 0, none⟩ = some (.bool b) ∧ w''.cell? ⟨w.heap.size, 1, none⟩ = some (.int .u64 n) ∧ w''.cell? ⟨w6.heap.size, 0, none⟩ = some (.bool false) ∧ w''.cell? ⟨w6.heap.size, 1, none⟩ = some (.int .u64 0)) (by kernel_rfl) (by refine ⟨?_, ?_, ?_, ?_⟩ <;> first | assumption | (simp [go_sem]; done) | (simp [go_sem, *]; done)) (fun hHeld0 => ?_)
  refine wpAnyH_take (i := 0) (oi := { dst := some 92, op := Op.move (Operand.tmp 11), type := 25, pos := "law.go:43", after := #[], guard := none }) (v := ?_) rfl (by kernel_rfl) (by kernel_rfl) (by kernel_rfl) (fun _ _ _ h => h) (Or.inl ⟨by rfl, ?_⟩) (by assumption) ?_
  rotate_left
  · (intro wz hSw; (try dsimp only at hSw); go_simp; first | done | with_reducible rfl)
  try simp only [Act.put, List.setIfInBounds_toArray, List.set_cons_zero, List.set_cons_succ]
  refine wpAnyH_take (i := 1) (oi := { dst := some 93, op := Op.move (Operand.tmp 0), type := 3, pos := "law.go:43", after := #[], guard := none }) (v := ?_) rfl (by kernel_rfl) (by kernel_rfl) (by kernel_rfl) (fun _ _ _ h => h) (Or.inl ⟨by rfl, ?_⟩) (by assumption) ?_
  rotate_left
  · (intro wz hSw; (try dsimp only at hSw); go_simp; first | done | with_reducible rfl)
  try simp only [Act.put, List.setIfInBounds_toArray, List.set_cons_zero, List.set_cons_succ]
  refine wpAnyH_take (i := 2) (oi := { dst := some 94, op := Op.move (Operand.tmp 2), type := 22, pos := "law.go:43", after := #[], guard := none }) (v := ?_) rfl (by kernel_rfl) (by kernel_rfl) (by kernel_rfl) (fun _ _ _ h => h) (Or.inl ⟨by rfl, ?_⟩) (by assumption) ?_
  rotate_left
  · (intro wz hSw; (try dsimp only at hSw); go_simp; first | done | with_reducible rfl)
  try simp only [Act.put, List.setIfInBounds_toArray, List.set_cons_zero, List.set_cons_succ]
  refine wpAnyH_ready (rs := [3]) (by kernel_rfl) (by simp) ?_
  refine AllReadyH.cons (o := { dst := some 95, op := Op.buildSlice 52 1 #[(0, Operand.tmp 94)], type := 52, pos := "law.go:43", after := #[{ on := 2, ground := Ground.data }], guard := none }) rfl (fun Kw hKw => ?_) AllReadyH.nil
  go_simp
  (try go_wp2_with fail)
  refine hKw.out _ _ ?_ (fun hHeld1 => ?_)
  · refine ⟨?_, ?_, ?_, ?_⟩ <;> first | assumption | (simp [go_sem]; done) | (simp [go_sem, *]; done)
  clear hKw Kw hHeld0
  try simp only [Act.put, List.setIfInBounds_toArray, List.set_cons_zero, List.set_cons_succ]
  refine wpAnyH_ready (rs := [4]) (by kernel_rfl) (by simp) ?_
  refine AllReadyH.cons (o := { dst := some 96, op := Op.call { callee := Callee.value (Operand.func 11), args := #[Operand.tmp 93, Operand.tmp 95], argTypes := #[3, 52] }, type := 25, pos := "law.go:43", after := #[{ on := 1, ground := Ground.data }, { on := 3, ground := Ground.data }], guard := none }) rfl (fun Kw hKw => ?_) AllReadyH.nil
  go_simp
  ((go_at_call 11; with_reducible refine (c_Bad1 k q _ _ HQ.out ?_).mono ?_; (focus (first | (simp [go_sem]; done) | (simp [go_sem, *]; done))); rintro e w7 ⟨rfl, rfl⟩))
  (try go_wp2_with fail)
  refine hKw.out _ _ ?_ (fun hHeld2 => ?_)
  · refine ⟨?_, ?_, ?_, ?_⟩ <;> first | assumption | (simp [go_sem]; done) | (simp [go_sem, *]; done)
  clear hKw Kw hHeld1
  try simp only [Act.put, List.setIfInBounds_toArray, List.set_cons_zero, List.set_cons_succ]
  refine wpAnyH_take (i := 5) (oi := { dst := some 97, op := Op.binOp BinOp.neq 25 (Operand.tmp 92) (Operand.tmp 96) 25, type := 4, pos := "law.go:43", after := #[{ on := 0, ground := Ground.data }, { on := 4, ground := Ground.data }], guard := none }) (v := ?_) rfl (by kernel_rfl) (by kernel_rfl) (by kernel_rfl) (fun _ _ _ h => h) (Or.inl ⟨by rfl, ?_⟩) (by assumption) ?_
  rotate_left
  · (intro wz hSw; (try dsimp only at hSw); go_simp; first | done | with_reducible rfl)
  try simp only [Act.put, List.setIfInBounds_toArray, List.set_cons_zero, List.set_cons_succ]
  refine wpAnyH_take (i := 6) (oi := { dst := some 98, op := Op.move (Operand.tmp 97), type := 4, pos := "law.go:43", after := #[{ on := 5, ground := Ground.data }, { on := 4, ground := Ground.chain }], guard := none }) (v := ?_) rfl (by kernel_rfl) (by kernel_rfl) (by kernel_rfl) (fun _ _ _ h => h) (Or.inl ⟨by rfl, ?_⟩) (by assumption) ?_
  rotate_left
  · (intro wz hSw; (try dsimp only at hSw); go_simp; first | done | with_reducible rfl)
  try simp only [Act.put, List.setIfInBounds_toArray, List.set_cons_zero, List.set_cons_succ]
  refine wpAnyH_take (i := 7) (oi := { dst := some 99, op := Op.move (Operand.tmp 11), type := 25, pos := "law.go:43", after := #[{ on := 6, ground := Ground.guard }], guard := some (6, false) }) (v := ?_) rfl (by kernel_rfl) (by kernel_rfl) (by kernel_rfl) (fun _ _ _ h => h) (Or.inl ⟨by rfl, ?_⟩) (by assumption) ?_
  rotate_left
  · (intro wz hSw; (try dsimp only at hSw); go_simp; first | done | with_reducible rfl)
  try simp only [Act.put, List.setIfInBounds_toArray, List.set_cons_zero, List.set_cons_succ]
  refine wpAnyH_take (i := 8) (oi := { dst := some 100, op := Op.binOp BinOp.neq 25 (Operand.tmp 99) (Operand.const (Value.int IntKind.i64 0)) 25, type := 4, pos := "law.go:43", after := #[{ on := 7, ground := Ground.data }, { on := 6, ground := Ground.guard }], guard := some (6, false) }) (v := ?_) rfl (by kernel_rfl) (by kernel_rfl) (by kernel_rfl) (fun _ _ _ h => h) (Or.inl ⟨by rfl, ?_⟩) (by assumption) ?_
  rotate_left
  · (intro wz hSw; (try dsimp only at hSw); go_simp; first | done | with_reducible rfl)
  try simp only [Act.put, List.setIfInBounds_toArray, List.set_cons_zero, List.set_cons_succ]
  refine wpAnyH_take (i := 9) (oi := { dst := some 101, op := Op.move (Operand.tmp 100), type := 4, pos := "law.go:43", after := #[{ on := 8, ground := Ground.data }, { on := 6, ground := Ground.chain }, { on := 6, ground := Ground.guard }], guard := some (6, false) }) (v := ?_) rfl (by kernel_rfl) (by kernel_rfl) (by kernel_rfl) (fun _ _ _ h => h) (Or.inl ⟨by rfl, ?_⟩) (by assumption) ?_
  rotate_left
  · (intro wz hSw; (try dsimp only at hSw); go_simp; first | done | with_reducible rfl)
  try simp only [Act.put, List.setIfInBounds_toArray, List.set_cons_zero, List.set_cons_succ]
  refine wpAnyH_take (i := 10) (oi := { dst := some 102, op := Op.load 24 (Operand.tmp 14), type := 24, pos := "law.go:43", after := #[{ on := 9, ground := Ground.guard }], guard := some (9, true) }) (v := ?_) rfl (by kernel_rfl) (by kernel_rfl) (by kernel_rfl) (fun _ _ _ h => h) (Or.inl ⟨by rfl, ?_⟩) (by assumption) ?_
  rotate_left
  · (intro wz hSw; (try dsimp only at hSw); go_simp; first | done | with_reducible rfl)
  try simp only [Act.put, List.setIfInBounds_toArray, List.set_cons_zero, List.set_cons_succ]
  refine wpAnyH_take (i := 11) (oi := { dst := some 103, op := Op.build 24 #[], type := 24, pos := "law.go:43", after := #[{ on := 9, ground := Ground.guard }], guard := some (9, true) }) (v := ?_) rfl (by kernel_rfl) (by kernel_rfl) (by kernel_rfl) (fun _ _ _ h => h) (Or.inl ⟨by rfl, ?_⟩) (by assumption) ?_
  rotate_left
  · (intro wz hSw; (try dsimp only at hSw); go_simp; first | done | with_reducible rfl)
  try simp only [Act.put, List.setIfInBounds_toArray, List.set_cons_zero, List.set_cons_succ]
  refine wpAnyH_take (i := 12) (oi := { dst := some 104, op := Op.binOp BinOp.neq 24 (Operand.tmp 102) (Operand.tmp 103) 24, type := 4, pos := "law.go:43", after := #[{ on := 10, ground := Ground.data }, { on := 11, ground := Ground.data }, { on := 9, ground := Ground.guard }], guard := some (9, true) }) (v := ?_) rfl (by kernel_rfl) (by kernel_rfl) (by kernel_rfl) (fun _ _ _ h => h) (Or.inl ⟨by rfl, ?_⟩) (by assumption) ?_
  rotate_left
  · (intro wz hSw; (try dsimp only at hSw); go_simp; first | done | with_reducible rfl)
  try simp only [Act.put, List.setIfInBounds_toArray, List.set_cons_zero, List.set_cons_succ]
  refine wpAnyH_take (i := 13) (oi := { dst := some 105, op := Op.pick (Operand.tmp 101) (Operand.tmp 104) (Operand.const (Value.bool false)), type := 4, pos := "law.go:43", after := #[{ on := 9, ground := Ground.data }, { on := 12, ground := Ground.data }, { on := 6, ground := Ground.guard }], guard := some (6, false) }) (v := ?_) rfl (by kernel_rfl) (by kernel_rfl) (by kernel_rfl) (fun _ _ _ h => h) (Or.inl ⟨by rfl, ?_⟩) (by assumption) ?_
  rotate_left
  · (intro wz hSw; (try dsimp only at hSw); go_simp; first | done | with_reducible rfl)
  try simp only [Act.put, List.setIfInBounds_toArray, List.set_cons_zero, List.set_cons_succ]
  refine wpAnyH_take (i := 14) (oi := { dst := some 106, op := Op.pick (Operand.tmp 98) (Operand.const (Value.bool true)) (Operand.tmp 105), type := 4, pos := "law.go:43", after := #[{ on := 6, ground := Ground.data }, { on := 13, ground := Ground.data }], guard := none }) (v := ?_) rfl (by kernel_rfl) (by kernel_rfl) (by kernel_rfl) (fun _ _ _ h => h) (Or.inl ⟨by rfl, ?_⟩) (by assumption) ?_
  rotate_left
  · (intro wz hSw; (try dsimp only at hSw); go_simp; first | done | with_reducible rfl)
  try simp only [Act.put, List.setIfInBounds_toArray, List.set_cons_zero, List.set_cons_succ]
  refine wpAnyH_take (i := 15) (oi := { dst := some 107, op := Op.move (Operand.tmp 106), type := 4, pos := "law.go:43", after := #[{ on := 14, ground := Ground.data }, { on := 9, ground := Ground.chain }], guard := none }) (v := ?_) rfl (by kernel_rfl) (by kernel_rfl) (by kernel_rfl) (fun _ _ _ h => h) (Or.inl ⟨by rfl, ?_⟩) (by assumption) ?_
  rotate_left
  · (intro wz hSw; (try dsimp only at hSw); go_simp; first | done | with_reducible rfl)
  try simp only [Act.put, List.setIfInBounds_toArray, List.set_cons_zero, List.set_cons_succ]
  refine wpAnyH_take (i := 16) (oi := { dst := some 108, op := Op.move (Operand.tmp 11), type := 25, pos := "law.go:43", after := #[{ on := 15, ground := Ground.guard }], guard := some (15, false) }) (v := ?_) rfl (by kernel_rfl) (by kernel_rfl) (by kernel_rfl) (fun _ _ _ h => h) (Or.inl ⟨by rfl, ?_⟩) (by assumption) ?_
  rotate_left
  · (intro wz hSw; (try dsimp only at hSw); go_simp; first | done | with_reducible rfl)
  try simp only [Act.put, List.setIfInBounds_toArray, List.set_cons_zero, List.set_cons_succ]
  refine wpAnyH_take (i := 17) (oi := { dst := some 109, op := Op.binOp BinOp.eql 25 (Operand.tmp 108) (Operand.const (Value.int IntKind.i64 0)) 25, type := 4, pos := "law.go:43", after := #[{ on := 16, ground := Ground.data }, { on := 15, ground := Ground.guard }], guard := some (15, false) }) (v := ?_) rfl (by kernel_rfl) (by kernel_rfl) (by kernel_rfl) (fun _ _ _ h => h) (Or.inl ⟨by rfl, ?_⟩) (by assumption) ?_
  rotate_left
  · (intro wz hSw; (try dsimp only at hSw); go_simp; first | done | with_reducible rfl)
  try simp only [Act.put, List.setIfInBounds_toArray, List.set_cons_zero, List.set_cons_succ]
  refine wpAnyH_take (i := 18) (oi := { dst := some 110, op := Op.move (Operand.tmp 109), type := 4, pos := "law.go:43", after := #[{ on := 17, ground := Ground.data }, { on := 15, ground := Ground.chain }, { on := 15, ground := Ground.guard }], guard := some (15, false) }) (v := ?_) rfl (by kernel_rfl) (by kernel_rfl) (by kernel_rfl) (fun _ _ _ h => h) (Or.inl ⟨by rfl, ?_⟩) (by assumption) ?_
  rotate_left
  · (intro wz hSw; (try dsimp only at hSw); go_simp; first | done | with_reducible rfl)
  try simp only [Act.put, List.setIfInBounds_toArray, List.set_cons_zero, List.set_cons_succ]
  refine wpAnyH_take (i := 19) (oi := { dst := some 111, op := Op.load 24 (Operand.tmp 14), type := 24, pos := "law.go:43", after := #[{ on := 18, ground := Ground.guard }], guard := some (18, true) }) (v := undef) rfl (by kernel_rfl) (by kernel_rfl) (by kernel_rfl) (fun _ _ _ h => h) (Or.inr ⟨by rfl, rfl⟩) (by assumption) ?_
  try simp only [Act.put, List.setIfInBounds_toArray, List.set_cons_zero, List.set_cons_succ]
  refine wpAnyH_take (i := 20) (oi := { dst := some 112, op := Op.move (Operand.tmp 0), type := 3, pos := "law.go:43", after := #[{ on := 18, ground := Ground.guard }], guard := some (18, true) }) (v := undef) rfl (by kernel_rfl) (by kernel_rfl) (by kernel_rfl) (fun _ _ _ h => h) (Or.inr ⟨by rfl, rfl⟩) (by assumption) ?_
  try simp only [Act.put, List.setIfInBounds_toArray, List.set_cons_zero, List.set_cons_succ]
  refine wpAnyH_take (i := 21) (oi := { dst := some 113, op := Op.move (Operand.tmp 2), type := 22, pos := "law.go:43", after := #[{ on := 18, ground := Ground.guard }], guard := some (18, true) }) (v := undef) rfl (by kernel_rfl) (by kernel_rfl) (by kernel_rfl) (fun _ _ _ h => h) (Or.inr ⟨by rfl, rfl⟩) (by assumption) ?_
  try simp only [Act.put, List.setIfInBounds_toArray, List.set_cons_zero, List.set_cons_succ]
  refine wpAnyH_take (i := 22) (oi := { dst := some 114, op := Op.call { callee := Callee.value (Operand.func 12), args := #[Operand.tmp 112, Operand.tmp 113], argTypes := #[3, 22] }, type := 24, pos := "law.go:43", after := #[{ on := 20, ground := Ground.data }, { on := 21, ground := Ground.data }, { on := 18, ground := Ground.chain }, { on := 18, ground := Ground.guard }], guard := some (18, true) }) (v := undef) rfl (by kernel_rfl) (by kernel_rfl) (by kernel_rfl) (fun _ _ _ h => h) (Or.inr ⟨by rfl, rfl⟩) (by assumption) ?_
  try simp only [Act.put, List.setIfInBounds_toArray, List.set_cons_zero, List.set_cons_succ]
  refine wpAnyH_take (i := 23) (oi := { dst := some 115, op := Op.binOp BinOp.neq 24 (Operand.tmp 111) (Operand.tmp 114) 24, type := 4, pos := "law.go:43", after := #[{ on := 19, ground := Ground.data }, { on := 22, ground := Ground.data }, { on := 18, ground := Ground.guard }], guard := some (18, true) }) (v := undef) rfl (by kernel_rfl) (by kernel_rfl) (by kernel_rfl) (fun _ _ _ h => h) (Or.inr ⟨by rfl, rfl⟩) (by assumption) ?_
  try simp only [Act.put, List.setIfInBounds_toArray, List.set_cons_zero, List.set_cons_succ]
  refine wpAnyH_take (i := 24) (oi := { dst := some 116, op := Op.pick (Operand.tmp 110) (Operand.tmp 115) (Operand.const (Value.bool false)), type := 4, pos := "law.go:43", after := #[{ on := 18, ground := Ground.data }, { on := 23, ground := Ground.data }, { on := 15, ground := Ground.guard }], guard := some (15, false) }) (v := ?_) rfl (by kernel_rfl) (by kernel_rfl) (by kernel_rfl) (fun _ _ _ h => h) (Or.inl ⟨by rfl, ?_⟩) (by assumption) ?_
  rotate_left
  · (intro wz hSw; (try dsimp only at hSw); go_simp; first | done | with_reducible rfl)
  try simp only [Act.put, List.setIfInBounds_toArray, List.set_cons_zero, List.set_cons_succ]
  refine wpAnyH_take (i := 25) (oi := { dst := some 117, op := Op.pick (Operand.tmp 107) (Operand.const (Value.bool true)) (Operand.tmp 116), type := 4, pos := "law.go:43", after := #[{ on := 15, ground := Ground.data }, { on := 24, ground := Ground.data }], guard := none }) (v := ?_) rfl (by kernel_rfl) (by kernel_rfl) (by kernel_rfl) (fun _ _ _ h => h) (Or.inl ⟨by rfl, ?_⟩) (by assumption) ?_
  rotate_left
  · (intro wz hSw; (try dsimp only at hSw); go_simp; first | done | with_reducible rfl)
  try simp only [Act.put, List.setIfInBounds_toArray, List.set_cons_zero, List.set_cons_succ]
  refine wpAnyH_done (by kernel_rfl) ?_ _
  obtain ⟨hx0, hx1, hz0, hz1⟩ := hHeld2
  go_wp2_with (first | ((go_at_call 8; with_reducible refine (c_Const b n _ HN.out.1).mono ?_; rintro e wc ⟨rfl, hkc9⟩; have hx0 := keepc hkc9 (b := w.heap.size) (o := 0) (v := .bool b) (by first | assumption | (simp [go_sem]; done) | (simp [go_sem, *]; done)); have hx1 := keepc hkc9 (b := w.heap.size) (o := 1) (v := .int .u64 n) (by first | assumption | (simp [go_sem]; done) | (simp [go_sem, *]; done)))) | ((go_at_call 13; with_reducible refine (c_In k b n _ hwh).mono ?_; rintro e wi ⟨rfl, hki9⟩; have hx0 := keepc hki9 (b := w.heap.size) (o := 0) (v := .bool b) (by first | assumption | (simp [go_sem]; done) | (simp [go_sem, *]; done)); have hx1 := keepc hki9 (b := w.heap.size) (o := 1) (v := .int .u64 n) (by first | assumption | (simp [go_sem]; done) | (simp [go_sem, *]; done)))) | ((go_at_call 14; with_reducible refine (c_Word b n _).mono ?_; rintro e wj ⟨rfl, hkj9⟩)))
  go_ret
  exact ⟨rfl, (by (repeat (first | exact Below.refl _ _ | refine bb (by assumption) ?_ | refine kbb (by assumption) ?_ | refine ab ?_ _ _ | refine sb ?_ (by first | omega | (simp; done) | (simp; omega)) _ | refine db ?_)))⟩
end Go.Proofs.YtihchlkoohficaaDoor

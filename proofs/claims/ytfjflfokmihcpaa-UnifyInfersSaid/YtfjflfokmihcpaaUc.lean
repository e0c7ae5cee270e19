/- The list of the matcher (matcher$2): its types one after the other. Condition: both rows lie in memory, outside the map. -/
import Derived.Test.YtfjflfokmihcpaaUb
import Derived.Deep.RegionHeld3
namespace Go.Proofs.Ytfjflfokmihcpaa
open Go.RowKit
set_option linter.unusedVariables false
set_option linter.unusedSimpArgs false
/-- What the matcher answers on sound types of less than r within one another. -/
def IHm (bm bs bM bF bL : Nat) (L : List ByteArray) (r R R' : Nat) : Prop :=
  ∀ (X Y : Ty) (hx hy : Hd) (σ : St) (W : World), EnvM bm bs bM bF bL W → Lies W (Off bm) R X hx → Lies W (Off bm) R' Y hy → (look r X).2.2 = true → (look r Y).2.2 = true → StM bm L σ W →
    Calls Try.prog 51 #[hx.val, hy.val, .pointer (some ⟨bs, 0, none⟩), .pointer (some ⟨bF, 0, none⟩), .pointer (some ⟨bL, 0, none⟩)] W (MP bm L (mtch L r σ X Y) W)
set_option maxHeartbeats 1600000 in
theorem list_ne (bm bM : Nat) (L : List ByteArray) (f : St → Ty → Ty → Option St) (σ : St) (la lb : List Ty) (aa ab : Option Addr) (ca cb : Nat) (w : World) (h : la.length ≠ lb.length) :
    Calls Try.prog 50 #[.slice aa la.length ca, .slice ab lb.length cb, .pointer (some ⟨bM, 0, none⟩)] w (MP bm L (walkK f σ la lb) w) := by
  have HN := Lib.hid (walkK_len (f := f) (σ := σ) h)
  have hne : ((la.length : Int) != (lb.length : Int)) = true := by simp; omega
  clear h
  go_enter Try.func50, Try.ntmps50
  go_wp2_with fail
  go_ret
  exact ⟨Mk.refl _ _, .inl ⟨HN.out, rfl⟩⟩
set_option maxHeartbeats 6400000 in
set_option maxRecDepth 100000 in
theorem c_listU (bm bs bM bF bL : Nat) (L : List ByteArray) (r R R' : Nat) (ih : IHm bm bs bM bF bL L r R R') (σ : St) (la lb : List Ty) (aa ab : Option Addr) (ca cb : Nat) (K J : Nat → Hd) (w : World) (hE : EnvM bm bs bM bF bL w)
    (hA : LiesAll w (Off bm) R la aa ca K) (hB : LiesAll w (Off bm) R' lb ab cb J) (sa : ∀ (i : Nat) (X : Ty), la[i]? = some X → (look r X).2.2 = true) (sb : ∀ (i : Nat) (X : Ty), lb[i]? = some X → (look r X).2.2 = true) (hn1 : la.length ≤ 17) (hbm : bm < w.heap.size) (st : StM bm L σ w) :
    Calls Try.prog 50 #[.slice aa la.length ca, .slice ab lb.length cb, .pointer (some ⟨bM, 0, none⟩)] w (MP bm L (walkK (mtch L r) σ la lb) w) := by
  by_cases hlen : la.length = lb.length
  case neg => exact list_ne bm bM L _ σ la lb aa ab ca cb w hlen
  have IH := Lib.hid ih
  have HE := Lib.hid hE
  have HA0 := Lib.hid hA
  have HB0 := Lib.hid hB
  have SA := Lib.hid sa
  have SB := Lib.hid sb
  have ST := Lib.hid st
  have NM := Lib.hid hE.nM
  have hle : la.length ≤ lb.length := by omega
  have hle' : lb.length ≤ la.length := by omega
  have hne : ((la.length : Int) != (lb.length : Int)) = false := by simp; omega
  have HLEN := Lib.hid hlen
  clear ih hE hA hB sa sb st hlen
  go_enter Try.func50, Try.ntmps50
  go_wp2_with fail
  go_loopw [15] (fun i wr => ∃ n : Nat, n ≤ la.length ∧ i = .int .i64 n ∧ Mk bm w wr ∧ ∃ σn, walkK (mtch L r) σ (la.take n) (lb.take n) = some σn ∧ StM bm L σn wr) (fun i _ => la.length - (intOf i).toNat)
  case atStart => exact ⟨0, by omega, rfl, Mk.refl _ _, σ, rfl, ST.out⟩
  case round =>
    obtain ⟨n, hn, rfl, hkr, σn, hw, hst⟩ := hrel
    have HKR := Lib.hid hkr
    have HW := Lib.hid hw
    have HST := Lib.hid hst
    have hwr : w.heap.size ≤ wr.heap.size := hkr.sz
    clear hkr hw hst
    by_cases hlt : n < la.length
    · have hltB : n < lb.length := by omega
      obtain ⟨b, o, ha, _, _, hr⟩ := (HA0.out.mk HKR.out).1.atS (by omega)
      obtain ⟨tb, to, hb, hS, htl, hrb⟩ := (HB0.out.mk HKR.out).1.atS (by omega)
      subst hb
      have HA := Lib.hid ha
      have HR := Lib.hid (hr n hlt)
      have HRB := Lib.hid (hrb n hltB)
      have NT := Lib.hid (show tb ≠ bm from hS)
      have NW := Lib.hid (show wr.heap.size ≠ bm by omega)
      clear ha hr hrb hS
      obtain ⟨X, hX⟩ : ∃ X, la[n]? = some X := ⟨_, List.getElem?_eq_getElem hlt⟩
      obtain ⟨Y, hY⟩ : ∃ Y, lb[n]? = some Y := ⟨_, List.getElem?_eq_getElem hltB⟩
      have HX := Lib.hid hX
      have HY := Lib.hid hY
      clear hX hY
      have KB := Lib.hid ((Kp.refl wr).alloc (.cells #[.int .i64 (K n).k, .string (K n).nm, .int .i64 (K n).con, .slice (K n).fa (K n).fl (K n).fc, .slice (K n).la (K n).ll (K n).lc, .slice (K n).ra (K n).rl (K n).rc] 42))
      have a0 : (wr.alloc (.cells #[.int .i64 (K n).k, .string (K n).nm, .int .i64 (K n).con, .slice (K n).fa (K n).fl (K n).fc, .slice (K n).la (K n).ll (K n).lc, .slice (K n).ra (K n).rl (K n).rc] 42)).cell? ⟨bM, 0, none⟩ = some (.func (.func 51) #[] #[.pointer (some ⟨bs, 0, none⟩), .pointer (some ⟨bF, 0, none⟩), .pointer (some ⟨bL, 0, none⟩)]) := KB.out.cellv (HE.out.turn HKR.out).cM
      obtain ⟨x0, x1, x2, x3, x4, x5, xs⟩ := boxed (h := K n) (Kp.refl (wr.alloc (.cells #[.int .i64 (K n).k, .string (K n).nm, .int .i64 (K n).con, .slice (K n).fa (K n).fl (K n).fc, .slice (K n).la (K n).ll (K n).lc, .slice (K n).ra (K n).rl (K n).rc] 42)))
      have yy : ∀ j v, (J n).cells[j]? = some v → (wr.alloc (.cells #[.int .i64 (K n).k, .string (K n).nm, .int .i64 (K n).con, .slice (K n).fa (K n).fl (K n).fc, .slice (K n).la (K n).ll (K n).lc, .slice (K n).ra (K n).rl (K n).rc] 42)).cell? ⟨tb, to + n * 6 + j, none⟩ = some v := fun j v hv => KB.out.cellv (HRB.out j v hv)
      have y0 : (wr.alloc (.cells #[.int .i64 (K n).k, .string (K n).nm, .int .i64 (K n).con, .slice (K n).fa (K n).fl (K n).fc, .slice (K n).la (K n).ll (K n).lc, .slice (K n).ra (K n).rl (K n).rc] 42)).cell? ⟨tb, to + n * 6, none⟩ = some (.int .i64 (J n).k) := yy 0 _ rfl
      have y1 : (wr.alloc (.cells #[.int .i64 (K n).k, .string (K n).nm, .int .i64 (K n).con, .slice (K n).fa (K n).fl (K n).fc, .slice (K n).la (K n).ll (K n).lc, .slice (K n).ra (K n).rl (K n).rc] 42)).cell? ⟨tb, to + n * 6 + 1, none⟩ = some (.string (J n).nm) := yy 1 _ rfl
      have y2 : (wr.alloc (.cells #[.int .i64 (K n).k, .string (K n).nm, .int .i64 (K n).con, .slice (K n).fa (K n).fl (K n).fc, .slice (K n).la (K n).ll (K n).lc, .slice (K n).ra (K n).rl (K n).rc] 42)).cell? ⟨tb, to + n * 6 + 2, none⟩ = some (.int .i64 (J n).con) := yy 2 _ rfl
      have y3 : (wr.alloc (.cells #[.int .i64 (K n).k, .string (K n).nm, .int .i64 (K n).con, .slice (K n).fa (K n).fl (K n).fc, .slice (K n).la (K n).ll (K n).lc, .slice (K n).ra (K n).rl (K n).rc] 42)).cell? ⟨tb, to + n * 6 + 3, none⟩ = some (.slice (J n).fa (J n).fl (J n).fc) := yy 3 _ rfl
      have y4 : (wr.alloc (.cells #[.int .i64 (K n).k, .string (K n).nm, .int .i64 (K n).con, .slice (K n).fa (K n).fl (K n).fc, .slice (K n).la (K n).ll (K n).lc, .slice (K n).ra (K n).rl (K n).rc] 42)).cell? ⟨tb, to + n * 6 + 4, none⟩ = some (.slice (J n).la (J n).ll (J n).lc) := yy 4 _ rfl
      have y5 : (wr.alloc (.cells #[.int .i64 (K n).k, .string (K n).nm, .int .i64 (K n).con, .slice (K n).fa (K n).fl (K n).fc, .slice (K n).la (K n).ll (K n).lc, .slice (K n).ra (K n).rl (K n).rc] 42)).cell? ⟨tb, to + n * 6 + 5, none⟩ = some (.slice (J n).ra (J n).rl (J n).rc) := yy 5 _ rfl
      clear yy
      have j1 : (0 : Int) ≤ n := by omega
      have j2 : (n : Int) < lb.length := by omega
      have CX := Lib.hid (IH.out X Y (K n) (J n) σn (wr.alloc (.cells #[.int .i64 (K n).k, .string (K n).nm, .int .i64 (K n).con, .slice (K n).fa (K n).fl (K n).fc, .slice (K n).la (K n).ll (K n).lc, .slice (K n).ra (K n).rl (K n).rc] 42)).drew (HE.out.turn (HKR.out.trans KB.out.drew.mk)) ((HA0.out.2 n X HX.out).mk (HKR.out.trans KB.out.drew.mk)) ((HB0.out.2 n Y HY.out).mk (HKR.out.trans KB.out.drew.mk)) (SA.out n X HX.out) (SB.out n Y HY.out) (HST.out.keep KB.out.drew))
      cases c2 : mtch L r σn X Y with
      | none =>
        have HN := Lib.hid (walkK_stop (f := mtch L r) (σ := σ) (us := la) (vs := lb) (n := n + 1) (by rw [walkK_succ HX.out HY.out, HW.out]; exact c2) (by omega) (by omega))
        have C2 := Lib.hid c2
        clear c2
        go_wp2_with (first | ((with_reducible show wpList _ _ _ (⟨some 18, _, _, _, _, _⟩ :: _) _ _); refine wpList_index_tab (d := 18) _ _ _ rfl 42 Try.underlying23 6 rfl _ _ _ _ o (by rfl) HA.out n (by rfl) hlt ?_) | ((with_reducible show wpList _ _ _ (⟨some 19, _, _, _, _, _⟩ :: _) _ _); refine wpList_load_ty (d := 19) _ _ rfl _ Try.underlying42 wr _ _ b (o + n * 6) (by rfl) rfl (by first | rfl | omega) (K n) HR.out (Kp.refl _) rfl ?_))
        go_region_held3 (fun w' => w'.cell? ⟨bM, 0, none⟩ = some (.func (.func 51) #[] #[.pointer (some ⟨bs, 0, none⟩), .pointer (some ⟨bF, 0, none⟩), .pointer (some ⟨bL, 0, none⟩)]) ∧ w'.cell? ⟨wr.heap.size, 0, none⟩ = some (.int .i64 (K n).k) ∧ w'.cell? ⟨wr.heap.size, 1, none⟩ = some (.string (K n).nm) ∧ w'.cell? ⟨wr.heap.size, 2, none⟩ = some (.int .i64 (K n).con) ∧ w'.cell? ⟨wr.heap.size, 3, none⟩ = some (.slice (K n).fa (K n).fl (K n).fc) ∧ w'.cell? ⟨wr.heap.size, 4, none⟩ = some (.slice (K n).la (K n).ll (K n).lc) ∧ w'.cell? ⟨wr.heap.size, 5, none⟩ = some (.slice (K n).ra (K n).rl (K n).rc) ∧ w'.cell? ⟨tb, to + n * 6, none⟩ = some (.int .i64 (J n).k) ∧ w'.cell? ⟨tb, to + n * 6 + 1, none⟩ = some (.string (J n).nm) ∧ w'.cell? ⟨tb, to + n * 6 + 2, none⟩ = some (.int .i64 (J n).con) ∧ w'.cell? ⟨tb, to + n * 6 + 3, none⟩ = some (.slice (J n).fa (J n).fl (J n).fc) ∧ w'.cell? ⟨tb, to + n * 6 + 4, none⟩ = some (.slice (J n).la (J n).ll (J n).lc) ∧ w'.cell? ⟨tb, to + n * 6 + 5, none⟩ = some (.slice (J n).ra (J n).rl (J n).rc))
          (first | exact ⟨a0, x0, x1, x2, x3, x4, x5, y0, y1, y2, y3, y4, y5⟩ | exact ⟨hk6.cellv a0 NM.out, hk6.cellv x0 NW.out, hk6.cellv x1 NW.out, hk6.cellv x2 NW.out, hk6.cellv x3 NW.out, hk6.cellv x4 NW.out, hk6.cellv x5 NW.out, hk6.cellv y0 NT.out, hk6.cellv y1 NT.out, hk6.cellv y2 NT.out, hk6.cellv y3 NT.out, hk6.cellv y4 NT.out, hk6.cellv y5 NT.out⟩)
          ((first | (go_at_call 51; refine CX.out.mono ?_; intro e w6 hp6; obtain ⟨he6, hk6⟩ := hp6.no C2.out; subst he6)))
        go_wp2_with fail
        go_ret
        exact ⟨HKR.out.trans (KB.out.drew.mk.trans hk6), .inl ⟨HN.out, rfl⟩⟩
      | some σ2 =>
        have HN := Lib.hid (show walkK (mtch L r) σ (la.take (n + 1)) (lb.take (n + 1)) = some σ2 by rw [walkK_succ HX.out HY.out, HW.out]; exact c2)
        have C2 := Lib.hid c2
        clear c2
        go_wp2_with (first | ((with_reducible show wpList _ _ _ (⟨some 18, _, _, _, _, _⟩ :: _) _ _); refine wpList_index_tab (d := 18) _ _ _ rfl 42 Try.underlying23 6 rfl _ _ _ _ o (by rfl) HA.out n (by rfl) hlt ?_) | ((with_reducible show wpList _ _ _ (⟨some 19, _, _, _, _, _⟩ :: _) _ _); refine wpList_load_ty (d := 19) _ _ rfl _ Try.underlying42 wr _ _ b (o + n * 6) (by rfl) rfl (by first | rfl | omega) (K n) HR.out (Kp.refl _) rfl ?_))
        go_region_held3 (fun w' => w'.cell? ⟨bM, 0, none⟩ = some (.func (.func 51) #[] #[.pointer (some ⟨bs, 0, none⟩), .pointer (some ⟨bF, 0, none⟩), .pointer (some ⟨bL, 0, none⟩)]) ∧ w'.cell? ⟨wr.heap.size, 0, none⟩ = some (.int .i64 (K n).k) ∧ w'.cell? ⟨wr.heap.size, 1, none⟩ = some (.string (K n).nm) ∧ w'.cell? ⟨wr.heap.size, 2, none⟩ = some (.int .i64 (K n).con) ∧ w'.cell? ⟨wr.heap.size, 3, none⟩ = some (.slice (K n).fa (K n).fl (K n).fc) ∧ w'.cell? ⟨wr.heap.size, 4, none⟩ = some (.slice (K n).la (K n).ll (K n).lc) ∧ w'.cell? ⟨wr.heap.size, 5, none⟩ = some (.slice (K n).ra (K n).rl (K n).rc) ∧ w'.cell? ⟨tb, to + n * 6, none⟩ = some (.int .i64 (J n).k) ∧ w'.cell? ⟨tb, to + n * 6 + 1, none⟩ = some (.string (J n).nm) ∧ w'.cell? ⟨tb, to + n * 6 + 2, none⟩ = some (.int .i64 (J n).con) ∧ w'.cell? ⟨tb, to + n * 6 + 3, none⟩ = some (.slice (J n).fa (J n).fl (J n).fc) ∧ w'.cell? ⟨tb, to + n * 6 + 4, none⟩ = some (.slice (J n).la (J n).ll (J n).lc) ∧ w'.cell? ⟨tb, to + n * 6 + 5, none⟩ = some (.slice (J n).ra (J n).rl (J n).rc))
          (first | exact ⟨a0, x0, x1, x2, x3, x4, x5, y0, y1, y2, y3, y4, y5⟩ | exact ⟨hk6.cellv a0 NM.out, hk6.cellv x0 NW.out, hk6.cellv x1 NW.out, hk6.cellv x2 NW.out, hk6.cellv x3 NW.out, hk6.cellv x4 NW.out, hk6.cellv x5 NW.out, hk6.cellv y0 NT.out, hk6.cellv y1 NT.out, hk6.cellv y2 NT.out, hk6.cellv y3 NT.out, hk6.cellv y4 NT.out, hk6.cellv y5 NT.out⟩)
          ((first | (go_at_call 51; refine CX.out.mono ?_; intro e w6 hp6; obtain ⟨he6, hk6, hs6⟩ := hp6.yes C2.out; subst he6; have HS6 := Lib.hid hs6; clear hs6)))
        go_wp2_with fail
        go_roundw
        case rel => exact ⟨n + 1, by omega, by go_num, HKR.out.trans (KB.out.drew.mk.trans hk6), σ2, HN.out, HS6.out⟩
        case measure => simp [intOf]; omega
    · have hz : ¬ ((n : Int) < (la.length : Int)) := by omega
      obtain rfl : n = la.length := by omega
      have HN := Lib.hid (show walkK (mtch L r) σ la lb = some σn by have := HW.out; rwa [List.take_length, HLEN.out, List.take_length] at this)
      go_wp2_with fail
      go_ret
      exact ⟨HKR.out, .inr ⟨σn, HN.out, rfl, HST.out⟩⟩
end Go.Proofs.Ytfjflfokmihcpaa

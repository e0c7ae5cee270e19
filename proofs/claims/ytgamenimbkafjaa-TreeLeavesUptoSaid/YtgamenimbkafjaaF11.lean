/- What a node must have by its Kind, in the program: isFormed of package tree, but for functions. Condition: the node lies in memory. -/
import Derived.Test.YtgamenimbkafjaaF6
import Derived.Test.YtgamenimbkafjaaF6b
import Derived.Test.YtgamenimbkafjaaF7
import Derived.Test.YtgamenimbkafjaaF7a
import Derived.Test.YtgamenimbkafjaaF7b
import Derived.Test.YtgamenimbkafjaaF8
import Derived.Test.YtgamenimbkafjaaF8a
import Derived.Test.YtgamenimbkafjaaF9
import Derived.Test.YtgamenimbkafjaaF10
namespace Go.Proofs.Ytgamenimbkafjaa
open Go.RowKit
set_option linter.unusedVariables false
set_option linter.unusedSimpArgs false

/-- Has a node what its Kind asks for, of nodes in it the Kinds alone? -/
noncomputable def formB (k : Int) (tx : ByteArray) (n : Int) (ks : List Int) : Bool :=
  if k = 1 then bareB tx n && allB ks (inK [2, 3]) else
  if k = 2 then namedB tx n && fewB ks (inK [5]) else
  if k = 3 then namedB tx n && areB ks [(inK [4]), (inK [6]), (inK [7]), (inK [20])] else
  if k = 4 then bareB tx n && fewB ks (inK [8]) else
  if k = 5 then namedB tx n && areB ks [tyK] else
  if k = 6 then bareB tx n && fewB ks (inK [5]) else
  if k = 7 then bareB tx n && (areB ks [] || areB ks [tyK]) else
  if k = 8 then nameB tx && decide (1 ≤ n ∧ n ≤ 3) && areB ks [] else
  if k = 10 then namedB tx n && areB ks [] else
  if k = 11 then bareB tx n && areB ks [tyK] else
  if k = 12 then bareB tx n && areB ks [tyK] else
  if k = 13 then eitherB tx n && (decide (n ≤ (ks.length : Int)) && decide ((ks.length : Int) ≤ 16 + n)) && allB ks tyK else
  if k = 20 then bareB tx n && allB ks stK else
  if k = 21 then namedB tx n && areB ks [exK] else
  if k = 22 then namedB tx n && areB ks [tyK] else
  if k = 23 then bareB tx n && areB ks [(inK [30, 35, 36]), exK] else
  if k = 24 then bareB tx n && areB ks [(inK [34, 39])] else
  if k = 25 then bareB tx n && (areB ks [exK, inK [20]] || areB ks [exK, inK [20], inK [20, 25]]) else
  if k = 26 then bareB tx n && areB ks [exK, (inK [20])] else
  if k = 27 then eitherB tx n && areB ks [] else
  if k = 28 then bareB tx n && (areB ks [] || areB ks [exK]) else
  if k = 29 then eitherB tx n && areB ks [(inK [34])] else
  if k = 30 then namedB tx n && areB ks [] else
  if k = 31 then @decide (tx = ⟨#[]⟩) (Classical.propDecidable _) && areB ks [] else
  if k = 32 then eitherB tx n && areB ks [] else
  if k = 33 then decide (n = 0) && opB tx ks.length && allB ks exK else
  if k = 34 then bareB tx n && argsB ks exK else
  if k = 35 then namedB tx n && areB ks [exK] else
  if k = 36 then bareB tx n && decide (1 < ks.length) && argsB ks brK else
  if k = 37 then namedB tx n && fewB ks exK else
  if k = 38 then bareB tx n && areB ks [(inK [6]), (inK [7]), (inK [20])] else
  if k = 39 then bareB tx n && areB ks [exK] else
  if k = 40 then bareB tx n && areB ks [tyK, exK] else
  if k = 41 then bareB tx n && areB ks [exK, exK] else
  if k = 42 then bareB tx n && allB ks (inK [43, 44, 45]) && decide (countD ks ≤ 1) else
  if k = 43 then (bareB tx n || namedB tx n) && areB ks [exK, inK [20]] else
  if k = 44 then bareB tx n && areB ks [exK, exK, (inK [20])] else
  if k = 45 then bareB tx n && areB ks [(inK [20])] else
  false
set_option maxHeartbeats 3200000 in
set_option maxRecDepth 100000 in
theorem iF_1 (ks : List Int) (tx : ByteArray) (n at_ : Int) (la : Option Addr) (ll lc : Nat) (K : Nat → Hn) (w : World) (hL : ListAt w ks la ll lc K) (hcap : ll ≤ lc) (hs : tx.size ≤ 140737488351232) (hn : 0 ≤ n ∧ n ≤ 18446744073709551615) :
    Calls Try.prog 40 #[.agg #[.int .i64 1, .string tx, .int .u64 n, .int .i64 at_, .slice la ll lc]] w fun e w' => e = .returned (.bool (formB 1 tx n ks)) ∧ Kp w w' := by
  have hlen := hL.len
  rw [show formB 1 tx n ks = (bareB tx n && allB ks (inK [2, 3])) from by rfl]
  have HL := Lib.hid hL
  clear hL hlen
  go_enter Try.func40, Try.ntmps40
  go_wp2_with (first | (go_at_call 34; (with_reducible refine (c_isType ⟨1, tx, n, at_, la, ll, lc⟩ _).mono ?_); rintro e w' ⟨rfl, hk1⟩; rw [show tyK (1 : Int) = false from rfl]; have b := boxed (w := w) (h := ⟨1, tx, n, at_, la, ll, lc⟩) (show Kp _ w' by (repeat (first | with_reducible exact Kp.refl _ | with_reducible refine Kp.alloc ?_ _ | with_reducible refine Kp.drew ?_ | with_reducible refine Kp.back hk4 ?_ | with_reducible refine Kp.back hk3 ?_ | with_reducible refine Kp.back hk2 ?_ | with_reducible refine Kp.back hk1 ?_))); simp only at b; obtain ⟨b0, b1, b2, b3, b4, bs⟩ := b) | (go_at_call 32; (with_reducible refine (c_isStatement ⟨1, tx, n, at_, la, ll, lc⟩ _).mono ?_); rintro e w' ⟨rfl, hk2⟩; rw [show stK (1 : Int) = false from rfl]; have b := boxed (w := w) (h := ⟨1, tx, n, at_, la, ll, lc⟩) (show Kp _ w' by (repeat (first | with_reducible exact Kp.refl _ | with_reducible refine Kp.alloc ?_ _ | with_reducible refine Kp.drew ?_ | with_reducible refine Kp.back hk4 ?_ | with_reducible refine Kp.back hk3 ?_ | with_reducible refine Kp.back hk2 ?_ | with_reducible refine Kp.back hk1 ?_))); simp only at b; obtain ⟨b0, b1, b2, b3, b4, bs⟩ := b) | (go_at_call 33; (with_reducible refine (c_isExpression ⟨1, tx, n, at_, la, ll, lc⟩ _).mono ?_); rintro e w' ⟨rfl, hk3⟩; rw [show exK (1 : Int) = false from rfl]; have b := boxed (w := w) (h := ⟨1, tx, n, at_, la, ll, lc⟩) (show Kp _ w' by (repeat (first | with_reducible exact Kp.refl _ | with_reducible refine Kp.alloc ?_ _ | with_reducible refine Kp.drew ?_ | with_reducible refine Kp.back hk4 ?_ | with_reducible refine Kp.back hk3 ?_ | with_reducible refine Kp.back hk2 ?_ | with_reducible refine Kp.back hk1 ?_))); simp only at b; obtain ⟨b0, b1, b2, b3, b4, bs⟩ := b) | (go_at_call 53; (with_reducible refine (form_1 ks tx n at_ la ll lc K _ (HL.out.keep (by (repeat (first | with_reducible exact Kp.refl _ | with_reducible refine Kp.alloc ?_ _ | with_reducible refine Kp.drew ?_ | with_reducible refine Kp.back hk4 ?_ | with_reducible refine Kp.back hk3 ?_ | with_reducible refine Kp.back hk2 ?_ | with_reducible refine Kp.back hk1 ?_)))) hcap hs).mono ?_); rintro e w' ⟨rfl, hk4⟩))
  go_ret
  refine ⟨rfl, ?_⟩
  (repeat (first | with_reducible exact Kp.refl _ | with_reducible refine Kp.alloc ?_ _ | with_reducible refine Kp.drew ?_ | with_reducible refine Kp.back hk4 ?_ | with_reducible refine Kp.back hk3 ?_ | with_reducible refine Kp.back hk2 ?_ | with_reducible refine Kp.back hk1 ?_))
set_option maxHeartbeats 3200000 in
set_option maxRecDepth 100000 in
theorem iF_2 (ks : List Int) (tx : ByteArray) (n at_ : Int) (la : Option Addr) (ll lc : Nat) (K : Nat → Hn) (w : World) (hL : ListAt w ks la ll lc K) (hcap : ll ≤ lc) (hs : tx.size ≤ 140737488351232) (hn : 0 ≤ n ∧ n ≤ 18446744073709551615) :
    Calls Try.prog 40 #[.agg #[.int .i64 2, .string tx, .int .u64 n, .int .i64 at_, .slice la ll lc]] w fun e w' => e = .returned (.bool (formB 2 tx n ks)) ∧ Kp w w' := by
  have hlen := hL.len
  rw [show formB 2 tx n ks = (namedB tx n && fewB ks (inK [5])) from by rfl]
  have HL := Lib.hid hL
  clear hL hlen
  go_enter Try.func40, Try.ntmps40
  go_wp2_with (first | (go_at_call 34; (with_reducible refine (c_isType ⟨2, tx, n, at_, la, ll, lc⟩ _).mono ?_); rintro e w' ⟨rfl, hk1⟩; rw [show tyK (2 : Int) = false from rfl]; have b := boxed (w := w) (h := ⟨2, tx, n, at_, la, ll, lc⟩) (show Kp _ w' by (repeat (first | with_reducible exact Kp.refl _ | with_reducible refine Kp.alloc ?_ _ | with_reducible refine Kp.drew ?_ | with_reducible refine Kp.back hk4 ?_ | with_reducible refine Kp.back hk3 ?_ | with_reducible refine Kp.back hk2 ?_ | with_reducible refine Kp.back hk1 ?_))); simp only at b; obtain ⟨b0, b1, b2, b3, b4, bs⟩ := b) | (go_at_call 32; (with_reducible refine (c_isStatement ⟨2, tx, n, at_, la, ll, lc⟩ _).mono ?_); rintro e w' ⟨rfl, hk2⟩; rw [show stK (2 : Int) = false from rfl]; have b := boxed (w := w) (h := ⟨2, tx, n, at_, la, ll, lc⟩) (show Kp _ w' by (repeat (first | with_reducible exact Kp.refl _ | with_reducible refine Kp.alloc ?_ _ | with_reducible refine Kp.drew ?_ | with_reducible refine Kp.back hk4 ?_ | with_reducible refine Kp.back hk3 ?_ | with_reducible refine Kp.back hk2 ?_ | with_reducible refine Kp.back hk1 ?_))); simp only at b; obtain ⟨b0, b1, b2, b3, b4, bs⟩ := b) | (go_at_call 33; (with_reducible refine (c_isExpression ⟨2, tx, n, at_, la, ll, lc⟩ _).mono ?_); rintro e w' ⟨rfl, hk3⟩; rw [show exK (2 : Int) = false from rfl]; have b := boxed (w := w) (h := ⟨2, tx, n, at_, la, ll, lc⟩) (show Kp _ w' by (repeat (first | with_reducible exact Kp.refl _ | with_reducible refine Kp.alloc ?_ _ | with_reducible refine Kp.drew ?_ | with_reducible refine Kp.back hk4 ?_ | with_reducible refine Kp.back hk3 ?_ | with_reducible refine Kp.back hk2 ?_ | with_reducible refine Kp.back hk1 ?_))); simp only at b; obtain ⟨b0, b1, b2, b3, b4, bs⟩ := b) | (go_at_call 53; (with_reducible refine (form_2 ks tx n at_ la ll lc K _ (HL.out.keep (by (repeat (first | with_reducible exact Kp.refl _ | with_reducible refine Kp.alloc ?_ _ | with_reducible refine Kp.drew ?_ | with_reducible refine Kp.back hk4 ?_ | with_reducible refine Kp.back hk3 ?_ | with_reducible refine Kp.back hk2 ?_ | with_reducible refine Kp.back hk1 ?_)))) hcap hs).mono ?_); rintro e w' ⟨rfl, hk4⟩))
  go_ret
  refine ⟨rfl, ?_⟩
  (repeat (first | with_reducible exact Kp.refl _ | with_reducible refine Kp.alloc ?_ _ | with_reducible refine Kp.drew ?_ | with_reducible refine Kp.back hk4 ?_ | with_reducible refine Kp.back hk3 ?_ | with_reducible refine Kp.back hk2 ?_ | with_reducible refine Kp.back hk1 ?_))
set_option maxHeartbeats 3200000 in
set_option maxRecDepth 100000 in
theorem iF_4 (ks : List Int) (tx : ByteArray) (n at_ : Int) (la : Option Addr) (ll lc : Nat) (K : Nat → Hn) (w : World) (hL : ListAt w ks la ll lc K) (hcap : ll ≤ lc) (hs : tx.size ≤ 140737488351232) (hn : 0 ≤ n ∧ n ≤ 18446744073709551615) :
    Calls Try.prog 40 #[.agg #[.int .i64 4, .string tx, .int .u64 n, .int .i64 at_, .slice la ll lc]] w fun e w' => e = .returned (.bool (formB 4 tx n ks)) ∧ Kp w w' := by
  have hlen := hL.len
  rw [show formB 4 tx n ks = (bareB tx n && fewB ks (inK [8])) from by rfl]
  have HL := Lib.hid hL
  clear hL hlen
  go_enter Try.func40, Try.ntmps40
  go_wp2_with (first | (go_at_call 34; (with_reducible refine (c_isType ⟨4, tx, n, at_, la, ll, lc⟩ _).mono ?_); rintro e w' ⟨rfl, hk1⟩; rw [show tyK (4 : Int) = false from rfl]; have b := boxed (w := w) (h := ⟨4, tx, n, at_, la, ll, lc⟩) (show Kp _ w' by (repeat (first | with_reducible exact Kp.refl _ | with_reducible refine Kp.alloc ?_ _ | with_reducible refine Kp.drew ?_ | with_reducible refine Kp.back hk4 ?_ | with_reducible refine Kp.back hk3 ?_ | with_reducible refine Kp.back hk2 ?_ | with_reducible refine Kp.back hk1 ?_))); simp only at b; obtain ⟨b0, b1, b2, b3, b4, bs⟩ := b) | (go_at_call 32; (with_reducible refine (c_isStatement ⟨4, tx, n, at_, la, ll, lc⟩ _).mono ?_); rintro e w' ⟨rfl, hk2⟩; rw [show stK (4 : Int) = false from rfl]; have b := boxed (w := w) (h := ⟨4, tx, n, at_, la, ll, lc⟩) (show Kp _ w' by (repeat (first | with_reducible exact Kp.refl _ | with_reducible refine Kp.alloc ?_ _ | with_reducible refine Kp.drew ?_ | with_reducible refine Kp.back hk4 ?_ | with_reducible refine Kp.back hk3 ?_ | with_reducible refine Kp.back hk2 ?_ | with_reducible refine Kp.back hk1 ?_))); simp only at b; obtain ⟨b0, b1, b2, b3, b4, bs⟩ := b) | (go_at_call 33; (with_reducible refine (c_isExpression ⟨4, tx, n, at_, la, ll, lc⟩ _).mono ?_); rintro e w' ⟨rfl, hk3⟩; rw [show exK (4 : Int) = false from rfl]; have b := boxed (w := w) (h := ⟨4, tx, n, at_, la, ll, lc⟩) (show Kp _ w' by (repeat (first | with_reducible exact Kp.refl _ | with_reducible refine Kp.alloc ?_ _ | with_reducible refine Kp.drew ?_ | with_reducible refine Kp.back hk4 ?_ | with_reducible refine Kp.back hk3 ?_ | with_reducible refine Kp.back hk2 ?_ | with_reducible refine Kp.back hk1 ?_))); simp only at b; obtain ⟨b0, b1, b2, b3, b4, bs⟩ := b) | (go_at_call 53; (with_reducible refine (form_4 ks tx n at_ la ll lc K _ (HL.out.keep (by (repeat (first | with_reducible exact Kp.refl _ | with_reducible refine Kp.alloc ?_ _ | with_reducible refine Kp.drew ?_ | with_reducible refine Kp.back hk4 ?_ | with_reducible refine Kp.back hk3 ?_ | with_reducible refine Kp.back hk2 ?_ | with_reducible refine Kp.back hk1 ?_)))) hcap hs).mono ?_); rintro e w' ⟨rfl, hk4⟩))
  go_ret
  refine ⟨rfl, ?_⟩
  (repeat (first | with_reducible exact Kp.refl _ | with_reducible refine Kp.alloc ?_ _ | with_reducible refine Kp.drew ?_ | with_reducible refine Kp.back hk4 ?_ | with_reducible refine Kp.back hk3 ?_ | with_reducible refine Kp.back hk2 ?_ | with_reducible refine Kp.back hk1 ?_))
set_option maxHeartbeats 3200000 in
set_option maxRecDepth 100000 in
theorem iF_5 (ks : List Int) (tx : ByteArray) (n at_ : Int) (la : Option Addr) (ll lc : Nat) (K : Nat → Hn) (w : World) (hL : ListAt w ks la ll lc K) (hcap : ll ≤ lc) (hs : tx.size ≤ 140737488351232) (hn : 0 ≤ n ∧ n ≤ 18446744073709551615) :
    Calls Try.prog 40 #[.agg #[.int .i64 5, .string tx, .int .u64 n, .int .i64 at_, .slice la ll lc]] w fun e w' => e = .returned (.bool (formB 5 tx n ks)) ∧ Kp w w' := by
  have hlen := hL.len
  rw [show formB 5 tx n ks = (namedB tx n && areB ks [tyK]) from by rfl]
  have HL := Lib.hid hL
  clear hL hlen
  go_enter Try.func40, Try.ntmps40
  go_wp2_with (first | (go_at_call 34; (with_reducible refine (c_isType ⟨5, tx, n, at_, la, ll, lc⟩ _).mono ?_); rintro e w' ⟨rfl, hk1⟩; rw [show tyK (5 : Int) = false from rfl]; have b := boxed (w := w) (h := ⟨5, tx, n, at_, la, ll, lc⟩) (show Kp _ w' by (repeat (first | with_reducible exact Kp.refl _ | with_reducible refine Kp.alloc ?_ _ | with_reducible refine Kp.drew ?_ | with_reducible refine Kp.back hk4 ?_ | with_reducible refine Kp.back hk3 ?_ | with_reducible refine Kp.back hk2 ?_ | with_reducible refine Kp.back hk1 ?_))); simp only at b; obtain ⟨b0, b1, b2, b3, b4, bs⟩ := b) | (go_at_call 32; (with_reducible refine (c_isStatement ⟨5, tx, n, at_, la, ll, lc⟩ _).mono ?_); rintro e w' ⟨rfl, hk2⟩; rw [show stK (5 : Int) = false from rfl]; have b := boxed (w := w) (h := ⟨5, tx, n, at_, la, ll, lc⟩) (show Kp _ w' by (repeat (first | with_reducible exact Kp.refl _ | with_reducible refine Kp.alloc ?_ _ | with_reducible refine Kp.drew ?_ | with_reducible refine Kp.back hk4 ?_ | with_reducible refine Kp.back hk3 ?_ | with_reducible refine Kp.back hk2 ?_ | with_reducible refine Kp.back hk1 ?_))); simp only at b; obtain ⟨b0, b1, b2, b3, b4, bs⟩ := b) | (go_at_call 33; (with_reducible refine (c_isExpression ⟨5, tx, n, at_, la, ll, lc⟩ _).mono ?_); rintro e w' ⟨rfl, hk3⟩; rw [show exK (5 : Int) = false from rfl]; have b := boxed (w := w) (h := ⟨5, tx, n, at_, la, ll, lc⟩) (show Kp _ w' by (repeat (first | with_reducible exact Kp.refl _ | with_reducible refine Kp.alloc ?_ _ | with_reducible refine Kp.drew ?_ | with_reducible refine Kp.back hk4 ?_ | with_reducible refine Kp.back hk3 ?_ | with_reducible refine Kp.back hk2 ?_ | with_reducible refine Kp.back hk1 ?_))); simp only at b; obtain ⟨b0, b1, b2, b3, b4, bs⟩ := b) | (go_at_call 53; (with_reducible refine (form_5 ks tx n at_ la ll lc K _ (HL.out.keep (by (repeat (first | with_reducible exact Kp.refl _ | with_reducible refine Kp.alloc ?_ _ | with_reducible refine Kp.drew ?_ | with_reducible refine Kp.back hk4 ?_ | with_reducible refine Kp.back hk3 ?_ | with_reducible refine Kp.back hk2 ?_ | with_reducible refine Kp.back hk1 ?_)))) hcap hs).mono ?_); rintro e w' ⟨rfl, hk4⟩))
  go_ret
  refine ⟨rfl, ?_⟩
  (repeat (first | with_reducible exact Kp.refl _ | with_reducible refine Kp.alloc ?_ _ | with_reducible refine Kp.drew ?_ | with_reducible refine Kp.back hk4 ?_ | with_reducible refine Kp.back hk3 ?_ | with_reducible refine Kp.back hk2 ?_ | with_reducible refine Kp.back hk1 ?_))
set_option maxHeartbeats 3200000 in
set_option maxRecDepth 100000 in
theorem iF_6 (ks : List Int) (tx : ByteArray) (n at_ : Int) (la : Option Addr) (ll lc : Nat) (K : Nat → Hn) (w : World) (hL : ListAt w ks la ll lc K) (hcap : ll ≤ lc) (hs : tx.size ≤ 140737488351232) (hn : 0 ≤ n ∧ n ≤ 18446744073709551615) :
    Calls Try.prog 40 #[.agg #[.int .i64 6, .string tx, .int .u64 n, .int .i64 at_, .slice la ll lc]] w fun e w' => e = .returned (.bool (formB 6 tx n ks)) ∧ Kp w w' := by
  have hlen := hL.len
  rw [show formB 6 tx n ks = (bareB tx n && fewB ks (inK [5])) from by rfl]
  have HL := Lib.hid hL
  clear hL hlen
  go_enter Try.func40, Try.ntmps40
  go_wp2_with (first | (go_at_call 34; (with_reducible refine (c_isType ⟨6, tx, n, at_, la, ll, lc⟩ _).mono ?_); rintro e w' ⟨rfl, hk1⟩; rw [show tyK (6 : Int) = false from rfl]; have b := boxed (w := w) (h := ⟨6, tx, n, at_, la, ll, lc⟩) (show Kp _ w' by (repeat (first | with_reducible exact Kp.refl _ | with_reducible refine Kp.alloc ?_ _ | with_reducible refine Kp.drew ?_ | with_reducible refine Kp.back hk4 ?_ | with_reducible refine Kp.back hk3 ?_ | with_reducible refine Kp.back hk2 ?_ | with_reducible refine Kp.back hk1 ?_))); simp only at b; obtain ⟨b0, b1, b2, b3, b4, bs⟩ := b) | (go_at_call 32; (with_reducible refine (c_isStatement ⟨6, tx, n, at_, la, ll, lc⟩ _).mono ?_); rintro e w' ⟨rfl, hk2⟩; rw [show stK (6 : Int) = false from rfl]; have b := boxed (w := w) (h := ⟨6, tx, n, at_, la, ll, lc⟩) (show Kp _ w' by (repeat (first | with_reducible exact Kp.refl _ | with_reducible refine Kp.alloc ?_ _ | with_reducible refine Kp.drew ?_ | with_reducible refine Kp.back hk4 ?_ | with_reducible refine Kp.back hk3 ?_ | with_reducible refine Kp.back hk2 ?_ | with_reducible refine Kp.back hk1 ?_))); simp only at b; obtain ⟨b0, b1, b2, b3, b4, bs⟩ := b) | (go_at_call 33; (with_reducible refine (c_isExpression ⟨6, tx, n, at_, la, ll, lc⟩ _).mono ?_); rintro e w' ⟨rfl, hk3⟩; rw [show exK (6 : Int) = false from rfl]; have b := boxed (w := w) (h := ⟨6, tx, n, at_, la, ll, lc⟩) (show Kp _ w' by (repeat (first | with_reducible exact Kp.refl _ | with_reducible refine Kp.alloc ?_ _ | with_reducible refine Kp.drew ?_ | with_reducible refine Kp.back hk4 ?_ | with_reducible refine Kp.back hk3 ?_ | with_reducible refine Kp.back hk2 ?_ | with_reducible refine Kp.back hk1 ?_))); simp only at b; obtain ⟨b0, b1, b2, b3, b4, bs⟩ := b) | (go_at_call 53; (with_reducible refine (form_6 ks tx n at_ la ll lc K _ (HL.out.keep (by (repeat (first | with_reducible exact Kp.refl _ | with_reducible refine Kp.alloc ?_ _ | with_reducible refine Kp.drew ?_ | with_reducible refine Kp.back hk4 ?_ | with_reducible refine Kp.back hk3 ?_ | with_reducible refine Kp.back hk2 ?_ | with_reducible refine Kp.back hk1 ?_)))) hcap hs).mono ?_); rintro e w' ⟨rfl, hk4⟩))
  go_ret
  refine ⟨rfl, ?_⟩
  (repeat (first | with_reducible exact Kp.refl _ | with_reducible refine Kp.alloc ?_ _ | with_reducible refine Kp.drew ?_ | with_reducible refine Kp.back hk4 ?_ | with_reducible refine Kp.back hk3 ?_ | with_reducible refine Kp.back hk2 ?_ | with_reducible refine Kp.back hk1 ?_))
set_option maxHeartbeats 3200000 in
set_option maxRecDepth 100000 in
theorem iF_7 (ks : List Int) (tx : ByteArray) (n at_ : Int) (la : Option Addr) (ll lc : Nat) (K : Nat → Hn) (w : World) (hL : ListAt w ks la ll lc K) (hcap : ll ≤ lc) (hs : tx.size ≤ 140737488351232) (hn : 0 ≤ n ∧ n ≤ 18446744073709551615) :
    Calls Try.prog 40 #[.agg #[.int .i64 7, .string tx, .int .u64 n, .int .i64 at_, .slice la ll lc]] w fun e w' => e = .returned (.bool (formB 7 tx n ks)) ∧ Kp w w' := by
  have hlen := hL.len
  rw [show formB 7 tx n ks = (bareB tx n && (areB ks [] || areB ks [tyK])) from by rfl]
  have HL := Lib.hid hL
  clear hL hlen
  go_enter Try.func40, Try.ntmps40
  go_wp2_with (first | (go_at_call 34; (with_reducible refine (c_isType ⟨7, tx, n, at_, la, ll, lc⟩ _).mono ?_); rintro e w' ⟨rfl, hk1⟩; rw [show tyK (7 : Int) = false from rfl]; have b := boxed (w := w) (h := ⟨7, tx, n, at_, la, ll, lc⟩) (show Kp _ w' by (repeat (first | with_reducible exact Kp.refl _ | with_reducible refine Kp.alloc ?_ _ | with_reducible refine Kp.drew ?_ | with_reducible refine Kp.back hk4 ?_ | with_reducible refine Kp.back hk3 ?_ | with_reducible refine Kp.back hk2 ?_ | with_reducible refine Kp.back hk1 ?_))); simp only at b; obtain ⟨b0, b1, b2, b3, b4, bs⟩ := b) | (go_at_call 32; (with_reducible refine (c_isStatement ⟨7, tx, n, at_, la, ll, lc⟩ _).mono ?_); rintro e w' ⟨rfl, hk2⟩; rw [show stK (7 : Int) = false from rfl]; have b := boxed (w := w) (h := ⟨7, tx, n, at_, la, ll, lc⟩) (show Kp _ w' by (repeat (first | with_reducible exact Kp.refl _ | with_reducible refine Kp.alloc ?_ _ | with_reducible refine Kp.drew ?_ | with_reducible refine Kp.back hk4 ?_ | with_reducible refine Kp.back hk3 ?_ | with_reducible refine Kp.back hk2 ?_ | with_reducible refine Kp.back hk1 ?_))); simp only at b; obtain ⟨b0, b1, b2, b3, b4, bs⟩ := b) | (go_at_call 33; (with_reducible refine (c_isExpression ⟨7, tx, n, at_, la, ll, lc⟩ _).mono ?_); rintro e w' ⟨rfl, hk3⟩; rw [show exK (7 : Int) = false from rfl]; have b := boxed (w := w) (h := ⟨7, tx, n, at_, la, ll, lc⟩) (show Kp _ w' by (repeat (first | with_reducible exact Kp.refl _ | with_reducible refine Kp.alloc ?_ _ | with_reducible refine Kp.drew ?_ | with_reducible refine Kp.back hk4 ?_ | with_reducible refine Kp.back hk3 ?_ | with_reducible refine Kp.back hk2 ?_ | with_reducible refine Kp.back hk1 ?_))); simp only at b; obtain ⟨b0, b1, b2, b3, b4, bs⟩ := b) | (go_at_call 53; (with_reducible refine (form_7 ks tx n at_ la ll lc K _ (HL.out.keep (by (repeat (first | with_reducible exact Kp.refl _ | with_reducible refine Kp.alloc ?_ _ | with_reducible refine Kp.drew ?_ | with_reducible refine Kp.back hk4 ?_ | with_reducible refine Kp.back hk3 ?_ | with_reducible refine Kp.back hk2 ?_ | with_reducible refine Kp.back hk1 ?_)))) hcap hs).mono ?_); rintro e w' ⟨rfl, hk4⟩))
  go_ret
  refine ⟨rfl, ?_⟩
  (repeat (first | with_reducible exact Kp.refl _ | with_reducible refine Kp.alloc ?_ _ | with_reducible refine Kp.drew ?_ | with_reducible refine Kp.back hk4 ?_ | with_reducible refine Kp.back hk3 ?_ | with_reducible refine Kp.back hk2 ?_ | with_reducible refine Kp.back hk1 ?_))
set_option maxHeartbeats 3200000 in
set_option maxRecDepth 100000 in
theorem iF_8 (ks : List Int) (tx : ByteArray) (n at_ : Int) (la : Option Addr) (ll lc : Nat) (K : Nat → Hn) (w : World) (hL : ListAt w ks la ll lc K) (hcap : ll ≤ lc) (hs : tx.size ≤ 140737488351232) (hn : 0 ≤ n ∧ n ≤ 18446744073709551615) :
    Calls Try.prog 40 #[.agg #[.int .i64 8, .string tx, .int .u64 n, .int .i64 at_, .slice la ll lc]] w fun e w' => e = .returned (.bool (formB 8 tx n ks)) ∧ Kp w w' := by
  have hlen := hL.len
  rw [show formB 8 tx n ks = (nameB tx && decide (1 ≤ n ∧ n ≤ 3) && areB ks []) from by rfl]
  have HL := Lib.hid hL
  clear hL hlen
  go_enter Try.func40, Try.ntmps40
  go_wp2_with (first | (go_at_call 34; (with_reducible refine (c_isType ⟨8, tx, n, at_, la, ll, lc⟩ _).mono ?_); rintro e w' ⟨rfl, hk1⟩; rw [show tyK (8 : Int) = false from rfl]; have b := boxed (w := w) (h := ⟨8, tx, n, at_, la, ll, lc⟩) (show Kp _ w' by (repeat (first | with_reducible exact Kp.refl _ | with_reducible refine Kp.alloc ?_ _ | with_reducible refine Kp.drew ?_ | with_reducible refine Kp.back hk4 ?_ | with_reducible refine Kp.back hk3 ?_ | with_reducible refine Kp.back hk2 ?_ | with_reducible refine Kp.back hk1 ?_))); simp only at b; obtain ⟨b0, b1, b2, b3, b4, bs⟩ := b) | (go_at_call 32; (with_reducible refine (c_isStatement ⟨8, tx, n, at_, la, ll, lc⟩ _).mono ?_); rintro e w' ⟨rfl, hk2⟩; rw [show stK (8 : Int) = false from rfl]; have b := boxed (w := w) (h := ⟨8, tx, n, at_, la, ll, lc⟩) (show Kp _ w' by (repeat (first | with_reducible exact Kp.refl _ | with_reducible refine Kp.alloc ?_ _ | with_reducible refine Kp.drew ?_ | with_reducible refine Kp.back hk4 ?_ | with_reducible refine Kp.back hk3 ?_ | with_reducible refine Kp.back hk2 ?_ | with_reducible refine Kp.back hk1 ?_))); simp only at b; obtain ⟨b0, b1, b2, b3, b4, bs⟩ := b) | (go_at_call 33; (with_reducible refine (c_isExpression ⟨8, tx, n, at_, la, ll, lc⟩ _).mono ?_); rintro e w' ⟨rfl, hk3⟩; rw [show exK (8 : Int) = false from rfl]; have b := boxed (w := w) (h := ⟨8, tx, n, at_, la, ll, lc⟩) (show Kp _ w' by (repeat (first | with_reducible exact Kp.refl _ | with_reducible refine Kp.alloc ?_ _ | with_reducible refine Kp.drew ?_ | with_reducible refine Kp.back hk4 ?_ | with_reducible refine Kp.back hk3 ?_ | with_reducible refine Kp.back hk2 ?_ | with_reducible refine Kp.back hk1 ?_))); simp only at b; obtain ⟨b0, b1, b2, b3, b4, bs⟩ := b) | (go_at_call 53; (with_reducible refine (form_8 ks tx n at_ la ll lc K _ (HL.out.keep (by (repeat (first | with_reducible exact Kp.refl _ | with_reducible refine Kp.alloc ?_ _ | with_reducible refine Kp.drew ?_ | with_reducible refine Kp.back hk4 ?_ | with_reducible refine Kp.back hk3 ?_ | with_reducible refine Kp.back hk2 ?_ | with_reducible refine Kp.back hk1 ?_)))) hcap hs).mono ?_); rintro e w' ⟨rfl, hk4⟩))
  go_ret
  refine ⟨ret_boolA (a := nameB tx && (decide (1 ≤ n) && decide (n ≤ 3)) && areB ks []) (by rw [Bool.decide_and]), ?_⟩
  (repeat (first | with_reducible exact Kp.refl _ | with_reducible refine Kp.alloc ?_ _ | with_reducible refine Kp.drew ?_ | with_reducible refine Kp.back hk4 ?_ | with_reducible refine Kp.back hk3 ?_ | with_reducible refine Kp.back hk2 ?_ | with_reducible refine Kp.back hk1 ?_))
set_option maxHeartbeats 3200000 in
set_option maxRecDepth 100000 in
theorem iF_10 (ks : List Int) (tx : ByteArray) (n at_ : Int) (la : Option Addr) (ll lc : Nat) (K : Nat → Hn) (w : World) (hL : ListAt w ks la ll lc K) (hcap : ll ≤ lc) (hs : tx.size ≤ 140737488351232) (hn : 0 ≤ n ∧ n ≤ 18446744073709551615) :
    Calls Try.prog 40 #[.agg #[.int .i64 10, .string tx, .int .u64 n, .int .i64 at_, .slice la ll lc]] w fun e w' => e = .returned (.bool (formB 10 tx n ks)) ∧ Kp w w' := by
  have hlen := hL.len
  rw [show formB 10 tx n ks = (namedB tx n && areB ks []) from by rfl]
  have HL := Lib.hid hL
  clear hL hlen
  go_enter Try.func40, Try.ntmps40
  go_wp2_with (first | (go_at_call 34; (with_reducible refine (c_isType ⟨10, tx, n, at_, la, ll, lc⟩ _).mono ?_); rintro e w' ⟨rfl, hk1⟩; rw [show tyK (10 : Int) = true from rfl]; have b := boxed (w := w) (h := ⟨10, tx, n, at_, la, ll, lc⟩) (show Kp _ w' by (repeat (first | with_reducible exact Kp.refl _ | with_reducible refine Kp.alloc ?_ _ | with_reducible refine Kp.drew ?_ | with_reducible refine Kp.back hk4 ?_ | with_reducible refine Kp.back hk3 ?_ | with_reducible refine Kp.back hk2 ?_ | with_reducible refine Kp.back hk1 ?_))); simp only at b; obtain ⟨b0, b1, b2, b3, b4, bs⟩ := b) | (go_at_call 50; (with_reducible refine (form_10 ks tx n at_ la ll lc K _ (HL.out.keep (by (repeat (first | with_reducible exact Kp.refl _ | with_reducible refine Kp.alloc ?_ _ | with_reducible refine Kp.drew ?_ | with_reducible refine Kp.back hk4 ?_ | with_reducible refine Kp.back hk3 ?_ | with_reducible refine Kp.back hk2 ?_ | with_reducible refine Kp.back hk1 ?_)))) hcap hs).mono ?_); rintro e w' ⟨rfl, hk4⟩))
  go_ret
  refine ⟨rfl, ?_⟩
  (repeat (first | with_reducible exact Kp.refl _ | with_reducible refine Kp.alloc ?_ _ | with_reducible refine Kp.drew ?_ | with_reducible refine Kp.back hk4 ?_ | with_reducible refine Kp.back hk3 ?_ | with_reducible refine Kp.back hk2 ?_ | with_reducible refine Kp.back hk1 ?_))
set_option maxHeartbeats 3200000 in
set_option maxRecDepth 100000 in
theorem iF_11 (ks : List Int) (tx : ByteArray) (n at_ : Int) (la : Option Addr) (ll lc : Nat) (K : Nat → Hn) (w : World) (hL : ListAt w ks la ll lc K) (hcap : ll ≤ lc) (hs : tx.size ≤ 140737488351232) (hn : 0 ≤ n ∧ n ≤ 18446744073709551615) :
    Calls Try.prog 40 #[.agg #[.int .i64 11, .string tx, .int .u64 n, .int .i64 at_, .slice la ll lc]] w fun e w' => e = .returned (.bool (formB 11 tx n ks)) ∧ Kp w w' := by
  have hlen := hL.len
  rw [show formB 11 tx n ks = (bareB tx n && areB ks [tyK]) from by rfl]
  have HL := Lib.hid hL
  clear hL hlen
  go_enter Try.func40, Try.ntmps40
  go_wp2_with (first | (go_at_call 34; (with_reducible refine (c_isType ⟨11, tx, n, at_, la, ll, lc⟩ _).mono ?_); rintro e w' ⟨rfl, hk1⟩; rw [show tyK (11 : Int) = true from rfl]; have b := boxed (w := w) (h := ⟨11, tx, n, at_, la, ll, lc⟩) (show Kp _ w' by (repeat (first | with_reducible exact Kp.refl _ | with_reducible refine Kp.alloc ?_ _ | with_reducible refine Kp.drew ?_ | with_reducible refine Kp.back hk4 ?_ | with_reducible refine Kp.back hk3 ?_ | with_reducible refine Kp.back hk2 ?_ | with_reducible refine Kp.back hk1 ?_))); simp only at b; obtain ⟨b0, b1, b2, b3, b4, bs⟩ := b) | (go_at_call 50; (with_reducible refine (form_11 ks tx n at_ la ll lc K _ (HL.out.keep (by (repeat (first | with_reducible exact Kp.refl _ | with_reducible refine Kp.alloc ?_ _ | with_reducible refine Kp.drew ?_ | with_reducible refine Kp.back hk4 ?_ | with_reducible refine Kp.back hk3 ?_ | with_reducible refine Kp.back hk2 ?_ | with_reducible refine Kp.back hk1 ?_)))) hcap hs).mono ?_); rintro e w' ⟨rfl, hk4⟩))
  go_ret
  refine ⟨rfl, ?_⟩
  (repeat (first | with_reducible exact Kp.refl _ | with_reducible refine Kp.alloc ?_ _ | with_reducible refine Kp.drew ?_ | with_reducible refine Kp.back hk4 ?_ | with_reducible refine Kp.back hk3 ?_ | with_reducible refine Kp.back hk2 ?_ | with_reducible refine Kp.back hk1 ?_))
set_option maxHeartbeats 3200000 in
set_option maxRecDepth 100000 in
theorem iF_12 (ks : List Int) (tx : ByteArray) (n at_ : Int) (la : Option Addr) (ll lc : Nat) (K : Nat → Hn) (w : World) (hL : ListAt w ks la ll lc K) (hcap : ll ≤ lc) (hs : tx.size ≤ 140737488351232) (hn : 0 ≤ n ∧ n ≤ 18446744073709551615) :
    Calls Try.prog 40 #[.agg #[.int .i64 12, .string tx, .int .u64 n, .int .i64 at_, .slice la ll lc]] w fun e w' => e = .returned (.bool (formB 12 tx n ks)) ∧ Kp w w' := by
  have hlen := hL.len
  rw [show formB 12 tx n ks = (bareB tx n && areB ks [tyK]) from by rfl]
  have HL := Lib.hid hL
  clear hL hlen
  go_enter Try.func40, Try.ntmps40
  go_wp2_with (first | (go_at_call 34; (with_reducible refine (c_isType ⟨12, tx, n, at_, la, ll, lc⟩ _).mono ?_); rintro e w' ⟨rfl, hk1⟩; rw [show tyK (12 : Int) = true from rfl]; have b := boxed (w := w) (h := ⟨12, tx, n, at_, la, ll, lc⟩) (show Kp _ w' by (repeat (first | with_reducible exact Kp.refl _ | with_reducible refine Kp.alloc ?_ _ | with_reducible refine Kp.drew ?_ | with_reducible refine Kp.back hk4 ?_ | with_reducible refine Kp.back hk3 ?_ | with_reducible refine Kp.back hk2 ?_ | with_reducible refine Kp.back hk1 ?_))); simp only at b; obtain ⟨b0, b1, b2, b3, b4, bs⟩ := b) | (go_at_call 50; (with_reducible refine (form_12 ks tx n at_ la ll lc K _ (HL.out.keep (by (repeat (first | with_reducible exact Kp.refl _ | with_reducible refine Kp.alloc ?_ _ | with_reducible refine Kp.drew ?_ | with_reducible refine Kp.back hk4 ?_ | with_reducible refine Kp.back hk3 ?_ | with_reducible refine Kp.back hk2 ?_ | with_reducible refine Kp.back hk1 ?_)))) hcap hs).mono ?_); rintro e w' ⟨rfl, hk4⟩))
  go_ret
  refine ⟨rfl, ?_⟩
  (repeat (first | with_reducible exact Kp.refl _ | with_reducible refine Kp.alloc ?_ _ | with_reducible refine Kp.drew ?_ | with_reducible refine Kp.back hk4 ?_ | with_reducible refine Kp.back hk3 ?_ | with_reducible refine Kp.back hk2 ?_ | with_reducible refine Kp.back hk1 ?_))
set_option maxHeartbeats 3200000 in
set_option maxRecDepth 100000 in
theorem iF_13 (ks : List Int) (tx : ByteArray) (n at_ : Int) (la : Option Addr) (ll lc : Nat) (K : Nat → Hn) (w : World) (hL : ListAt w ks la ll lc K) (hcap : ll ≤ lc) (hs : tx.size ≤ 140737488351232) (hn : 0 ≤ n ∧ n ≤ 18446744073709551615) :
    Calls Try.prog 40 #[.agg #[.int .i64 13, .string tx, .int .u64 n, .int .i64 at_, .slice la ll lc]] w fun e w' => e = .returned (.bool (formB 13 tx n ks)) ∧ Kp w w' := by
  have hlen := hL.len
  rw [show formB 13 tx n ks = (eitherB tx n && (decide (n ≤ (ll : Int)) && decide ((ll : Int) ≤ 16 + n)) && allB ks tyK) from by rw [← hlen]; rfl]
  have HL := Lib.hid hL
  clear hL hlen
  go_enter Try.func40, Try.ntmps40
  go_wp2_with (first | (go_at_call 34; (with_reducible refine (c_isType ⟨13, tx, n, at_, la, ll, lc⟩ _).mono ?_); rintro e w' ⟨rfl, hk1⟩; rw [show tyK (13 : Int) = true from rfl]; have b := boxed (w := w) (h := ⟨13, tx, n, at_, la, ll, lc⟩) (show Kp _ w' by (repeat (first | with_reducible exact Kp.refl _ | with_reducible refine Kp.alloc ?_ _ | with_reducible refine Kp.drew ?_ | with_reducible refine Kp.back hk4 ?_ | with_reducible refine Kp.back hk3 ?_ | with_reducible refine Kp.back hk2 ?_ | with_reducible refine Kp.back hk1 ?_))); simp only at b; obtain ⟨b0, b1, b2, b3, b4, bs⟩ := b) | (go_at_call 50; (with_reducible refine (form_13 ks tx n at_ la ll lc K _ (HL.out.keep (by (repeat (first | with_reducible exact Kp.refl _ | with_reducible refine Kp.alloc ?_ _ | with_reducible refine Kp.drew ?_ | with_reducible refine Kp.back hk4 ?_ | with_reducible refine Kp.back hk3 ?_ | with_reducible refine Kp.back hk2 ?_ | with_reducible refine Kp.back hk1 ?_)))) hcap hs (by omega)).mono ?_); rintro e w' ⟨rfl, hk4⟩))
  go_ret
  refine ⟨rfl, ?_⟩
  (repeat (first | with_reducible exact Kp.refl _ | with_reducible refine Kp.alloc ?_ _ | with_reducible refine Kp.drew ?_ | with_reducible refine Kp.back hk4 ?_ | with_reducible refine Kp.back hk3 ?_ | with_reducible refine Kp.back hk2 ?_ | with_reducible refine Kp.back hk1 ?_))
set_option maxHeartbeats 3200000 in
set_option maxRecDepth 100000 in
theorem iF_20 (ks : List Int) (tx : ByteArray) (n at_ : Int) (la : Option Addr) (ll lc : Nat) (K : Nat → Hn) (w : World) (hL : ListAt w ks la ll lc K) (hcap : ll ≤ lc) (hs : tx.size ≤ 140737488351232) (hn : 0 ≤ n ∧ n ≤ 18446744073709551615) :
    Calls Try.prog 40 #[.agg #[.int .i64 20, .string tx, .int .u64 n, .int .i64 at_, .slice la ll lc]] w fun e w' => e = .returned (.bool (formB 20 tx n ks)) ∧ Kp w w' := by
  have hlen := hL.len
  rw [show formB 20 tx n ks = (bareB tx n && allB ks stK) from by rfl]
  have HL := Lib.hid hL
  clear hL hlen
  go_enter Try.func40, Try.ntmps40
  go_wp2_with (first | (go_at_call 34; (with_reducible refine (c_isType ⟨20, tx, n, at_, la, ll, lc⟩ _).mono ?_); rintro e w' ⟨rfl, hk1⟩; rw [show tyK (20 : Int) = false from rfl]; have b := boxed (w := w) (h := ⟨20, tx, n, at_, la, ll, lc⟩) (show Kp _ w' by (repeat (first | with_reducible exact Kp.refl _ | with_reducible refine Kp.alloc ?_ _ | with_reducible refine Kp.drew ?_ | with_reducible refine Kp.back hk4 ?_ | with_reducible refine Kp.back hk3 ?_ | with_reducible refine Kp.back hk2 ?_ | with_reducible refine Kp.back hk1 ?_))); simp only at b; obtain ⟨b0, b1, b2, b3, b4, bs⟩ := b) | (go_at_call 32; (with_reducible refine (c_isStatement ⟨20, tx, n, at_, la, ll, lc⟩ _).mono ?_); rintro e w' ⟨rfl, hk2⟩; rw [show stK (20 : Int) = true from rfl]; have b := boxed (w := w) (h := ⟨20, tx, n, at_, la, ll, lc⟩) (show Kp _ w' by (repeat (first | with_reducible exact Kp.refl _ | with_reducible refine Kp.alloc ?_ _ | with_reducible refine Kp.drew ?_ | with_reducible refine Kp.back hk4 ?_ | with_reducible refine Kp.back hk3 ?_ | with_reducible refine Kp.back hk2 ?_ | with_reducible refine Kp.back hk1 ?_))); simp only at b; obtain ⟨b0, b1, b2, b3, b4, bs⟩ := b) | (go_at_call 51; (with_reducible refine (form_20 ks tx n at_ la ll lc K _ (HL.out.keep (by (repeat (first | with_reducible exact Kp.refl _ | with_reducible refine Kp.alloc ?_ _ | with_reducible refine Kp.drew ?_ | with_reducible refine Kp.back hk4 ?_ | with_reducible refine Kp.back hk3 ?_ | with_reducible refine Kp.back hk2 ?_ | with_reducible refine Kp.back hk1 ?_)))) hcap hs).mono ?_); rintro e w' ⟨rfl, hk4⟩))
  go_ret
  refine ⟨rfl, ?_⟩
  (repeat (first | with_reducible exact Kp.refl _ | with_reducible refine Kp.alloc ?_ _ | with_reducible refine Kp.drew ?_ | with_reducible refine Kp.back hk4 ?_ | with_reducible refine Kp.back hk3 ?_ | with_reducible refine Kp.back hk2 ?_ | with_reducible refine Kp.back hk1 ?_))
set_option maxHeartbeats 3200000 in
set_option maxRecDepth 100000 in
theorem iF_21 (ks : List Int) (tx : ByteArray) (n at_ : Int) (la : Option Addr) (ll lc : Nat) (K : Nat → Hn) (w : World) (hL : ListAt w ks la ll lc K) (hcap : ll ≤ lc) (hs : tx.size ≤ 140737488351232) (hn : 0 ≤ n ∧ n ≤ 18446744073709551615) :
    Calls Try.prog 40 #[.agg #[.int .i64 21, .string tx, .int .u64 n, .int .i64 at_, .slice la ll lc]] w fun e w' => e = .returned (.bool (formB 21 tx n ks)) ∧ Kp w w' := by
  have hlen := hL.len
  rw [show formB 21 tx n ks = (namedB tx n && areB ks [exK]) from by rfl]
  have HL := Lib.hid hL
  clear hL hlen
  go_enter Try.func40, Try.ntmps40
  go_wp2_with (first | (go_at_call 34; (with_reducible refine (c_isType ⟨21, tx, n, at_, la, ll, lc⟩ _).mono ?_); rintro e w' ⟨rfl, hk1⟩; rw [show tyK (21 : Int) = false from rfl]; have b := boxed (w := w) (h := ⟨21, tx, n, at_, la, ll, lc⟩) (show Kp _ w' by (repeat (first | with_reducible exact Kp.refl _ | with_reducible refine Kp.alloc ?_ _ | with_reducible refine Kp.drew ?_ | with_reducible refine Kp.back hk4 ?_ | with_reducible refine Kp.back hk3 ?_ | with_reducible refine Kp.back hk2 ?_ | with_reducible refine Kp.back hk1 ?_))); simp only at b; obtain ⟨b0, b1, b2, b3, b4, bs⟩ := b) | (go_at_call 32; (with_reducible refine (c_isStatement ⟨21, tx, n, at_, la, ll, lc⟩ _).mono ?_); rintro e w' ⟨rfl, hk2⟩; rw [show stK (21 : Int) = true from rfl]; have b := boxed (w := w) (h := ⟨21, tx, n, at_, la, ll, lc⟩) (show Kp _ w' by (repeat (first | with_reducible exact Kp.refl _ | with_reducible refine Kp.alloc ?_ _ | with_reducible refine Kp.drew ?_ | with_reducible refine Kp.back hk4 ?_ | with_reducible refine Kp.back hk3 ?_ | with_reducible refine Kp.back hk2 ?_ | with_reducible refine Kp.back hk1 ?_))); simp only at b; obtain ⟨b0, b1, b2, b3, b4, bs⟩ := b) | (go_at_call 51; (with_reducible refine (form_21 ks tx n at_ la ll lc K _ (HL.out.keep (by (repeat (first | with_reducible exact Kp.refl _ | with_reducible refine Kp.alloc ?_ _ | with_reducible refine Kp.drew ?_ | with_reducible refine Kp.back hk4 ?_ | with_reducible refine Kp.back hk3 ?_ | with_reducible refine Kp.back hk2 ?_ | with_reducible refine Kp.back hk1 ?_)))) hcap hs).mono ?_); rintro e w' ⟨rfl, hk4⟩))
  go_ret
  refine ⟨rfl, ?_⟩
  (repeat (first | with_reducible exact Kp.refl _ | with_reducible refine Kp.alloc ?_ _ | with_reducible refine Kp.drew ?_ | with_reducible refine Kp.back hk4 ?_ | with_reducible refine Kp.back hk3 ?_ | with_reducible refine Kp.back hk2 ?_ | with_reducible refine Kp.back hk1 ?_))
set_option maxHeartbeats 3200000 in
set_option maxRecDepth 100000 in
theorem iF_22 (ks : List Int) (tx : ByteArray) (n at_ : Int) (la : Option Addr) (ll lc : Nat) (K : Nat → Hn) (w : World) (hL : ListAt w ks la ll lc K) (hcap : ll ≤ lc) (hs : tx.size ≤ 140737488351232) (hn : 0 ≤ n ∧ n ≤ 18446744073709551615) :
    Calls Try.prog 40 #[.agg #[.int .i64 22, .string tx, .int .u64 n, .int .i64 at_, .slice la ll lc]] w fun e w' => e = .returned (.bool (formB 22 tx n ks)) ∧ Kp w w' := by
  have hlen := hL.len
  rw [show formB 22 tx n ks = (namedB tx n && areB ks [tyK]) from by rfl]
  have HL := Lib.hid hL
  clear hL hlen
  go_enter Try.func40, Try.ntmps40
  go_wp2_with (first | (go_at_call 34; (with_reducible refine (c_isType ⟨22, tx, n, at_, la, ll, lc⟩ _).mono ?_); rintro e w' ⟨rfl, hk1⟩; rw [show tyK (22 : Int) = false from rfl]; have b := boxed (w := w) (h := ⟨22, tx, n, at_, la, ll, lc⟩) (show Kp _ w' by (repeat (first | with_reducible exact Kp.refl _ | with_reducible refine Kp.alloc ?_ _ | with_reducible refine Kp.drew ?_ | with_reducible refine Kp.back hk4 ?_ | with_reducible refine Kp.back hk3 ?_ | with_reducible refine Kp.back hk2 ?_ | with_reducible refine Kp.back hk1 ?_))); simp only at b; obtain ⟨b0, b1, b2, b3, b4, bs⟩ := b) | (go_at_call 32; (with_reducible refine (c_isStatement ⟨22, tx, n, at_, la, ll, lc⟩ _).mono ?_); rintro e w' ⟨rfl, hk2⟩; rw [show stK (22 : Int) = true from rfl]; have b := boxed (w := w) (h := ⟨22, tx, n, at_, la, ll, lc⟩) (show Kp _ w' by (repeat (first | with_reducible exact Kp.refl _ | with_reducible refine Kp.alloc ?_ _ | with_reducible refine Kp.drew ?_ | with_reducible refine Kp.back hk4 ?_ | with_reducible refine Kp.back hk3 ?_ | with_reducible refine Kp.back hk2 ?_ | with_reducible refine Kp.back hk1 ?_))); simp only at b; obtain ⟨b0, b1, b2, b3, b4, bs⟩ := b) | (go_at_call 51; (with_reducible refine (form_22 ks tx n at_ la ll lc K _ (HL.out.keep (by (repeat (first | with_reducible exact Kp.refl _ | with_reducible refine Kp.alloc ?_ _ | with_reducible refine Kp.drew ?_ | with_reducible refine Kp.back hk4 ?_ | with_reducible refine Kp.back hk3 ?_ | with_reducible refine Kp.back hk2 ?_ | with_reducible refine Kp.back hk1 ?_)))) hcap hs).mono ?_); rintro e w' ⟨rfl, hk4⟩))
  go_ret
  refine ⟨rfl, ?_⟩
  (repeat (first | with_reducible exact Kp.refl _ | with_reducible refine Kp.alloc ?_ _ | with_reducible refine Kp.drew ?_ | with_reducible refine Kp.back hk4 ?_ | with_reducible refine Kp.back hk3 ?_ | with_reducible refine Kp.back hk2 ?_ | with_reducible refine Kp.back hk1 ?_))
set_option maxHeartbeats 3200000 in
set_option maxRecDepth 100000 in
theorem iF_23 (ks : List Int) (tx : ByteArray) (n at_ : Int) (la : Option Addr) (ll lc : Nat) (K : Nat → Hn) (w : World) (hL : ListAt w ks la ll lc K) (hcap : ll ≤ lc) (hs : tx.size ≤ 140737488351232) (hn : 0 ≤ n ∧ n ≤ 18446744073709551615) :
    Calls Try.prog 40 #[.agg #[.int .i64 23, .string tx, .int .u64 n, .int .i64 at_, .slice la ll lc]] w fun e w' => e = .returned (.bool (formB 23 tx n ks)) ∧ Kp w w' := by
  have hlen := hL.len
  rw [show formB 23 tx n ks = (bareB tx n && areB ks [(inK [30, 35, 36]), exK]) from by rfl]
  have HL := Lib.hid hL
  clear hL hlen
  go_enter Try.func40, Try.ntmps40
  go_wp2_with (first | (go_at_call 34; (with_reducible refine (c_isType ⟨23, tx, n, at_, la, ll, lc⟩ _).mono ?_); rintro e w' ⟨rfl, hk1⟩; rw [show tyK (23 : Int) = false from rfl]; have b := boxed (w := w) (h := ⟨23, tx, n, at_, la, ll, lc⟩) (show Kp _ w' by (repeat (first | with_reducible exact Kp.refl _ | with_reducible refine Kp.alloc ?_ _ | with_reducible refine Kp.drew ?_ | with_reducible refine Kp.back hk4 ?_ | with_reducible refine Kp.back hk3 ?_ | with_reducible refine Kp.back hk2 ?_ | with_reducible refine Kp.back hk1 ?_))); simp only at b; obtain ⟨b0, b1, b2, b3, b4, bs⟩ := b) | (go_at_call 32; (with_reducible refine (c_isStatement ⟨23, tx, n, at_, la, ll, lc⟩ _).mono ?_); rintro e w' ⟨rfl, hk2⟩; rw [show stK (23 : Int) = true from rfl]; have b := boxed (w := w) (h := ⟨23, tx, n, at_, la, ll, lc⟩) (show Kp _ w' by (repeat (first | with_reducible exact Kp.refl _ | with_reducible refine Kp.alloc ?_ _ | with_reducible refine Kp.drew ?_ | with_reducible refine Kp.back hk4 ?_ | with_reducible refine Kp.back hk3 ?_ | with_reducible refine Kp.back hk2 ?_ | with_reducible refine Kp.back hk1 ?_))); simp only at b; obtain ⟨b0, b1, b2, b3, b4, bs⟩ := b) | (go_at_call 51; (with_reducible refine (form_23 ks tx n at_ la ll lc K _ (HL.out.keep (by (repeat (first | with_reducible exact Kp.refl _ | with_reducible refine Kp.alloc ?_ _ | with_reducible refine Kp.drew ?_ | with_reducible refine Kp.back hk4 ?_ | with_reducible refine Kp.back hk3 ?_ | with_reducible refine Kp.back hk2 ?_ | with_reducible refine Kp.back hk1 ?_)))) hcap hs).mono ?_); rintro e w' ⟨rfl, hk4⟩))
  go_ret
  refine ⟨rfl, ?_⟩
  (repeat (first | with_reducible exact Kp.refl _ | with_reducible refine Kp.alloc ?_ _ | with_reducible refine Kp.drew ?_ | with_reducible refine Kp.back hk4 ?_ | with_reducible refine Kp.back hk3 ?_ | with_reducible refine Kp.back hk2 ?_ | with_reducible refine Kp.back hk1 ?_))
set_option maxHeartbeats 3200000 in
set_option maxRecDepth 100000 in
theorem iF_24 (ks : List Int) (tx : ByteArray) (n at_ : Int) (la : Option Addr) (ll lc : Nat) (K : Nat → Hn) (w : World) (hL : ListAt w ks la ll lc K) (hcap : ll ≤ lc) (hs : tx.size ≤ 140737488351232) (hn : 0 ≤ n ∧ n ≤ 18446744073709551615) :
    Calls Try.prog 40 #[.agg #[.int .i64 24, .string tx, .int .u64 n, .int .i64 at_, .slice la ll lc]] w fun e w' => e = .returned (.bool (formB 24 tx n ks)) ∧ Kp w w' := by
  have hlen := hL.len
  rw [show formB 24 tx n ks = (bareB tx n && areB ks [(inK [34, 39])]) from by rfl]
  have HL := Lib.hid hL
  clear hL hlen
  go_enter Try.func40, Try.ntmps40
  go_wp2_with (first | (go_at_call 34; (with_reducible refine (c_isType ⟨24, tx, n, at_, la, ll, lc⟩ _).mono ?_); rintro e w' ⟨rfl, hk1⟩; rw [show tyK (24 : Int) = false from rfl]; have b := boxed (w := w) (h := ⟨24, tx, n, at_, la, ll, lc⟩) (show Kp _ w' by (repeat (first | with_reducible exact Kp.refl _ | with_reducible refine Kp.alloc ?_ _ | with_reducible refine Kp.drew ?_ | with_reducible refine Kp.back hk4 ?_ | with_reducible refine Kp.back hk3 ?_ | with_reducible refine Kp.back hk2 ?_ | with_reducible refine Kp.back hk1 ?_))); simp only at b; obtain ⟨b0, b1, b2, b3, b4, bs⟩ := b) | (go_at_call 32; (with_reducible refine (c_isStatement ⟨24, tx, n, at_, la, ll, lc⟩ _).mono ?_); rintro e w' ⟨rfl, hk2⟩; rw [show stK (24 : Int) = true from rfl]; have b := boxed (w := w) (h := ⟨24, tx, n, at_, la, ll, lc⟩) (show Kp _ w' by (repeat (first | with_reducible exact Kp.refl _ | with_reducible refine Kp.alloc ?_ _ | with_reducible refine Kp.drew ?_ | with_reducible refine Kp.back hk4 ?_ | with_reducible refine Kp.back hk3 ?_ | with_reducible refine Kp.back hk2 ?_ | with_reducible refine Kp.back hk1 ?_))); simp only at b; obtain ⟨b0, b1, b2, b3, b4, bs⟩ := b) | (go_at_call 51; (with_reducible refine (form_24 ks tx n at_ la ll lc K _ (HL.out.keep (by (repeat (first | with_reducible exact Kp.refl _ | with_reducible refine Kp.alloc ?_ _ | with_reducible refine Kp.drew ?_ | with_reducible refine Kp.back hk4 ?_ | with_reducible refine Kp.back hk3 ?_ | with_reducible refine Kp.back hk2 ?_ | with_reducible refine Kp.back hk1 ?_)))) hcap hs).mono ?_); rintro e w' ⟨rfl, hk4⟩))
  go_ret
  refine ⟨rfl, ?_⟩
  (repeat (first | with_reducible exact Kp.refl _ | with_reducible refine Kp.alloc ?_ _ | with_reducible refine Kp.drew ?_ | with_reducible refine Kp.back hk4 ?_ | with_reducible refine Kp.back hk3 ?_ | with_reducible refine Kp.back hk2 ?_ | with_reducible refine Kp.back hk1 ?_))
set_option maxHeartbeats 3200000 in
set_option maxRecDepth 100000 in
theorem iF_25 (ks : List Int) (tx : ByteArray) (n at_ : Int) (la : Option Addr) (ll lc : Nat) (K : Nat → Hn) (w : World) (hL : ListAt w ks la ll lc K) (hcap : ll ≤ lc) (hs : tx.size ≤ 140737488351232) (hn : 0 ≤ n ∧ n ≤ 18446744073709551615) :
    Calls Try.prog 40 #[.agg #[.int .i64 25, .string tx, .int .u64 n, .int .i64 at_, .slice la ll lc]] w fun e w' => e = .returned (.bool (formB 25 tx n ks)) ∧ Kp w w' := by
  have hlen := hL.len
  rw [show formB 25 tx n ks = (bareB tx n && (areB ks [exK, inK [20]] || areB ks [exK, inK [20], inK [20, 25]])) from by rfl]
  have HL := Lib.hid hL
  clear hL hlen
  go_enter Try.func40, Try.ntmps40
  go_wp2_with (first | (go_at_call 34; (with_reducible refine (c_isType ⟨25, tx, n, at_, la, ll, lc⟩ _).mono ?_); rintro e w' ⟨rfl, hk1⟩; rw [show tyK (25 : Int) = false from rfl]; have b := boxed (w := w) (h := ⟨25, tx, n, at_, la, ll, lc⟩) (show Kp _ w' by (repeat (first | with_reducible exact Kp.refl _ | with_reducible refine Kp.alloc ?_ _ | with_reducible refine Kp.drew ?_ | with_reducible refine Kp.back hk4 ?_ | with_reducible refine Kp.back hk3 ?_ | with_reducible refine Kp.back hk2 ?_ | with_reducible refine Kp.back hk1 ?_))); simp only at b; obtain ⟨b0, b1, b2, b3, b4, bs⟩ := b) | (go_at_call 32; (with_reducible refine (c_isStatement ⟨25, tx, n, at_, la, ll, lc⟩ _).mono ?_); rintro e w' ⟨rfl, hk2⟩; rw [show stK (25 : Int) = true from rfl]; have b := boxed (w := w) (h := ⟨25, tx, n, at_, la, ll, lc⟩) (show Kp _ w' by (repeat (first | with_reducible exact Kp.refl _ | with_reducible refine Kp.alloc ?_ _ | with_reducible refine Kp.drew ?_ | with_reducible refine Kp.back hk4 ?_ | with_reducible refine Kp.back hk3 ?_ | with_reducible refine Kp.back hk2 ?_ | with_reducible refine Kp.back hk1 ?_))); simp only at b; obtain ⟨b0, b1, b2, b3, b4, bs⟩ := b) | (go_at_call 51; (with_reducible refine (form_25 ks tx n at_ la ll lc K _ (HL.out.keep (by (repeat (first | with_reducible exact Kp.refl _ | with_reducible refine Kp.alloc ?_ _ | with_reducible refine Kp.drew ?_ | with_reducible refine Kp.back hk4 ?_ | with_reducible refine Kp.back hk3 ?_ | with_reducible refine Kp.back hk2 ?_ | with_reducible refine Kp.back hk1 ?_)))) hcap hs).mono ?_); rintro e w' ⟨rfl, hk4⟩))
  go_ret
  refine ⟨rfl, ?_⟩
  (repeat (first | with_reducible exact Kp.refl _ | with_reducible refine Kp.alloc ?_ _ | with_reducible refine Kp.drew ?_ | with_reducible refine Kp.back hk4 ?_ | with_reducible refine Kp.back hk3 ?_ | with_reducible refine Kp.back hk2 ?_ | with_reducible refine Kp.back hk1 ?_))
set_option maxHeartbeats 3200000 in
set_option maxRecDepth 100000 in
theorem iF_26 (ks : List Int) (tx : ByteArray) (n at_ : Int) (la : Option Addr) (ll lc : Nat) (K : Nat → Hn) (w : World) (hL : ListAt w ks la ll lc K) (hcap : ll ≤ lc) (hs : tx.size ≤ 140737488351232) (hn : 0 ≤ n ∧ n ≤ 18446744073709551615) :
    Calls Try.prog 40 #[.agg #[.int .i64 26, .string tx, .int .u64 n, .int .i64 at_, .slice la ll lc]] w fun e w' => e = .returned (.bool (formB 26 tx n ks)) ∧ Kp w w' := by
  have hlen := hL.len
  rw [show formB 26 tx n ks = (bareB tx n && areB ks [exK, (inK [20])]) from by rfl]
  have HL := Lib.hid hL
  clear hL hlen
  go_enter Try.func40, Try.ntmps40
  go_wp2_with (first | (go_at_call 34; (with_reducible refine (c_isType ⟨26, tx, n, at_, la, ll, lc⟩ _).mono ?_); rintro e w' ⟨rfl, hk1⟩; rw [show tyK (26 : Int) = false from rfl]; have b := boxed (w := w) (h := ⟨26, tx, n, at_, la, ll, lc⟩) (show Kp _ w' by (repeat (first | with_reducible exact Kp.refl _ | with_reducible refine Kp.alloc ?_ _ | with_reducible refine Kp.drew ?_ | with_reducible refine Kp.back hk4 ?_ | with_reducible refine Kp.back hk3 ?_ | with_reducible refine Kp.back hk2 ?_ | with_reducible refine Kp.back hk1 ?_))); simp only at b; obtain ⟨b0, b1, b2, b3, b4, bs⟩ := b) | (go_at_call 32; (with_reducible refine (c_isStatement ⟨26, tx, n, at_, la, ll, lc⟩ _).mono ?_); rintro e w' ⟨rfl, hk2⟩; rw [show stK (26 : Int) = true from rfl]; have b := boxed (w := w) (h := ⟨26, tx, n, at_, la, ll, lc⟩) (show Kp _ w' by (repeat (first | with_reducible exact Kp.refl _ | with_reducible refine Kp.alloc ?_ _ | with_reducible refine Kp.drew ?_ | with_reducible refine Kp.back hk4 ?_ | with_reducible refine Kp.back hk3 ?_ | with_reducible refine Kp.back hk2 ?_ | with_reducible refine Kp.back hk1 ?_))); simp only at b; obtain ⟨b0, b1, b2, b3, b4, bs⟩ := b) | (go_at_call 51; (with_reducible refine (form_26 ks tx n at_ la ll lc K _ (HL.out.keep (by (repeat (first | with_reducible exact Kp.refl _ | with_reducible refine Kp.alloc ?_ _ | with_reducible refine Kp.drew ?_ | with_reducible refine Kp.back hk4 ?_ | with_reducible refine Kp.back hk3 ?_ | with_reducible refine Kp.back hk2 ?_ | with_reducible refine Kp.back hk1 ?_)))) hcap hs).mono ?_); rintro e w' ⟨rfl, hk4⟩))
  go_ret
  refine ⟨rfl, ?_⟩
  (repeat (first | with_reducible exact Kp.refl _ | with_reducible refine Kp.alloc ?_ _ | with_reducible refine Kp.drew ?_ | with_reducible refine Kp.back hk4 ?_ | with_reducible refine Kp.back hk3 ?_ | with_reducible refine Kp.back hk2 ?_ | with_reducible refine Kp.back hk1 ?_))
end Go.Proofs.Ytgamenimbkafjaa

/- The reference's Fill and FillAll: a type with what names stand for, in new memory. Condition: the types lie in memory, and each name has its type. -/
import Derived.Test.YtfjflfokmihcpaaT1
import Derived.Deep.RegionHeld3
import Derived.Deep.AppendLies
import Derived.Maps.AppendAt
import Derived.Deep.QuietTactic
import Derived.BigQuiet
namespace Go.Proofs.Ytfjflfokmihcpaa
open Go.RowKit
set_option linter.unusedVariables false
set_option linter.unusedSimpArgs false

/-- A type with what names stand for, as a plain function. -/
def fill (σ : ByteArray → Option Ty) : Nat → Ty → Ty
  | 0, T => T
  | r + 1, T => match (if T.k = 12 then σ T.nm else none) with
    | some A => A
    | none => .mk T.k T.nm T.con T.fn T.nl (T.kids.map (fill σ r))
def noσ (s : ByteArray) : Option Ty := none
theorem noσ_if (T : Ty) : (if T.k = 12 then noσ T.nm else none) = none := by unfold noσ; split <;> rfl
theorem fill_none : ∀ (r : Nat) (T : Ty), fill noσ r T = T
  | 0, _ => rfl
  | r + 1, T => by
    rw [fill, noσ_if]
    have : T.kids.map (fill noσ r) = T.kids := by
      rw [show fill noσ r = id from funext (fill_none r), List.map_id]
    simp only [this]
    cases T
    rfl
section
variable {P : Program} {w : World} {ops : Array Oper} {rest : List Oper} {a : Act} {Q : Exit → Act → World → Prop}
/-- One element more, its place told. -/
theorem wpList_append_one_at {d : Tmp} {op : Op} {ty' : TypeId} {pos : String} {af : Array Edge} (s x : Operand) (t : TypeId)
    (hop : op = .call { callee := .builtin .append, args := #[s, x], argTypes := #[t, t] })
    (base : Nat) (e : TypeId) (i : TypeInfo) (z : Value) (size bytes : Nat) (ht : P.underlying t = some (.slice e)) (hi : P.info? e = some i) (hz : i.zero = some z)
    (hsize : i.size = size) (hby : i.bytes = bytes) (hzs : z.cells.size = size) (hsz : 0 < size)
    (v : Value) (n : Nat) (xs : List Value) (hs : a.eval s = v) (w1 : World) (hown : w1.ownsRow base e size v n xs)
    (cs : List Value) (e' : TypeId) (g c : Nat) (hx : a.eval x = .slice (some ⟨g, 0, none⟩) 1 c) (hg : g = w1.heap.size) (hw : w = w1.alloc (.cells cs.toArray e')) (hC : cs.length = size) (h1 : ∀ u ∈ cs, u.oneCell' = true)
    (h63 : n + 1 ≤ maxLen) (hbytes : (n + 1) * bytes ≤ 140737488355328) (hbase : base ≤ w1.heap.size)
    (h : ∀ v' w', w'.ownsRow base e size v' (n + 1) (xs ++ cs) → w.grownBy w' v.ownBlock → (v'.ownBlock = v.ownBlock ∨ v'.ownBlock = some w.heap.size) → wpList P ops Q rest (a.put (some d) v') w') : wpList P ops Q (⟨some d, op, ty', pos, af, none⟩ :: rest) a w := by
  subst hop
  subst hw
  subst hg
  refine wpList_append_own_at (w1.alloc (.cells cs.toArray e')) rfl s x t rfl base e i z size bytes ht hi hz hsize hby hzs hsz v n xs hs (hown.alloc _) ⟨w1.heap.size, 0, none⟩ 1 c cs hx (by omega) ?_ h1 h63 hbytes (by simp; omega) (fun v' w' a b _ d => h v' w' a b d)
  intro j u hu
  rw [Addr.add_mid, Nat.zero_add, cell_of_row _ w1.heap.size j cs.toArray e' (0, 0) (heap_alloc_new _ _)]
  simpa using hu
end

/-- Some kids, in a row of the call's own; none of them lies in the row. -/
def KidsIn (w : World) (B : Nat) (e : TypeId) (m r : Nat) (l : List Ty) (n : Nat) (v : Value) (P : Nat → List Value) (K : Nat → Hd) : Prop :=
  w.ownsRow B e m v n (flat (fun i => P i ++ (K i).cells) n) ∧ ∀ i X, i < n → l[i]? = some X → Lies w ⟨True, fun b => B ≤ b ∧ some b ≠ v.ownBlock⟩ r X (K i)
theorem kidsIn_nil (w : World) (B : Nat) (e : TypeId) (m r : Nat) (l : List Ty) (P : Nat → List Value) (K : Nat → Hd) : KidsIn w B e m r l 0 (.slice none 0 0) P K :=
  ⟨by simpa [flat] using World.ownsRow_nil _ _ _ _, fun i X hi => absurd hi (by omega)⟩
theorem KidsIn.keep {w w' : World} {B : Nat} {e : TypeId} {m r : Nat} {l : List Ty} {n : Nat} {v : Value} {P : Nat → List Value} {K : Nat → Hd} (h : KidsIn w B e m r l n v P K) (hk : Kp w w') : KidsIn w' B e m r l n v P K := by
  refine ⟨?_, fun i X hi hX => (h.2 i X hi hX).keep hk⟩
  obtain ⟨hl, hv | ⟨g, cap, cur, rfl, hB, hg, rest⟩⟩ := h.1
  · exact ⟨hl, .inl hv⟩
  · exact ⟨hl, .inr ⟨g, cap, cur, rfl, hB, (hk.blk (Array.getElem?_eq_some_iff.1 hg).1).trans hg, rest⟩⟩
/-- Another block than the row is written, or new ones are made. -/
theorem KidsIn.turn {N : Nat → Prop} {w w' : World} {B : Nat} {e : TypeId} {m r : Nat} {l : List Ty} {n : Nat} {v : Value} {P : Nat → List Value} {K : Nat → Hd} (h : KidsIn w B e m r l n v P K) (hk : Fr N w w') (hs : w.heap.size ≤ w'.heap.size) (hN : ∀ b, N b → b < B) : KidsIn w' B e m r l n v P K := by
  refine ⟨?_, fun i X hi hX => (h.2 i X hi hX).turn hk hs (fun b _ hS hb => by have := hN b hb; have := hS.1; omega)⟩
  obtain ⟨hl, hv | ⟨g, cap, cur, rfl, hB, hg, rest⟩⟩ := h.1
  · exact ⟨hl, .inl hv⟩
  · exact ⟨hl, .inr ⟨g, cap, cur, rfl, hB, (hk g (Array.getElem?_eq_some_iff.1 hg).1 (fun hb => by have := hN g hb; omega)).trans hg, rest⟩⟩
def put (K : Nat → Hd) (n : Nat) (h : Hd) (i : Nat) : Hd := if i = n then h else K i
theorem put_same (K : Nat → Hd) (n : Nat) (h : Hd) : put K n h n = h := if_pos rfl
theorem put_other (K : Nat → Hd) {n i : Nat} (h : Hd) (hi : i ≠ n) : put K n h i = K i := if_neg hi
/-- A round: the next kid is made, and appended. -/
theorem KidsIn.next {w w1 w2 w3 : World} {B : Nat} {e : TypeId} {m r : Nat} {l : List Ty} {n : Nat} {v v' : Value} {P : Nat → List Value} {K : Nat → Hd} {X : Ty} {h : Hd} (hB : B ≤ w.heap.size)
    (hI : KidsIn w B e m r l n v P K) (hX : l[n]? = some X) (hk1 : Kp w w1) (hli : Lies w1 (From w.heap.size) r X h) (hk2 : Kp w1 w2)
    (hown : w3.ownsRow B e m v' (n + 1) (flat (fun i => P i ++ (K i).cells) n ++ (P n ++ h.cells))) (hg : w2.grownBy w3 v.ownBlock) (hat : v'.ownBlock = v.ownBlock ∨ v'.ownBlock = some w2.heap.size) :
    KidsIn w3 B e m r l (n + 1) v' P (put K n h) := by
  have hlt := hI.1.lt
  have main : ∀ {i : Nat} {Y : Ty} {hd : Hd} {S : Sel}, Lies w2 S r Y hd → (∀ b, S.S b → B ≤ b ∧ some b ≠ v.ownBlock) → S.fresh → Lies w3 ⟨True, fun b => B ≤ b ∧ some b ≠ v'.ownBlock⟩ r Y hd := by
    intro i Y hd S hY hS hf
    have h0 : Lies w2 ⟨S.fresh, fun b => S.S b ∧ b < w2.heap.size⟩ r Y hd := hY.below (Nat.le_refl _)
    have h1 : Lies w3 ⟨S.fresh, fun b => S.S b ∧ b < w2.heap.size⟩ r Y hd := h0.turn (grown_fr hg) hg.size (fun b hb (hSb : S.S b ∧ b < w2.heap.size) e => (hS b hSb.1).2 e.symm)
    refine h1.weak (show Sel.le ⟨True, fun b => B ≤ b ∧ some b ≠ v'.ownBlock⟩ ⟨S.fresh, fun b => S.S b ∧ b < w2.heap.size⟩ from ⟨fun _ => hf, fun b hb => ⟨(hS b hb.1).1, ?_⟩⟩)
    rcases hat with hat | hat
    · rw [hat]; exact (hS b hb.1).2
    · rw [hat]; intro e; cases e; have := hb.2; omega
  refine ⟨?_, fun i Y hi hY => ?_⟩
  · rw [flat, put_same, flat_congr (C' := fun i => P i ++ (K i).cells) (fun i hi => by rw [put_other K h (by omega)])]
    exact hown
  · by_cases hin : i = n
    · subst hin
      rw [put_same]
      obtain rfl := Option.some.inj (hY.symm.trans hX)
      refine main (i := 0) (S := From w.heap.size) (hli.keep hk2) (fun b hb => ?_) trivial
      have hb' : w.heap.size ≤ b := hb
      refine ⟨by omega, fun e => ?_⟩
      have := (hlt b e.symm).2
      omega
    · rw [put_other K h hin]
      exact main (i := 0) ((hI.2 i Y (by omega) hY).keep (hk1.trans hk2)) (fun b hb => hb) trivial
/-- At the end the row is a table. -/
theorem KidsIn.all {w : World} {B : Nat} {r : Nat} {l : List Ty} {v : Value} {K : Nat → Hd} (h : KidsIn w B 42 6 r l l.length v (fun _ => []) K) :
    ∃ ad c, v = .slice ad l.length c ∧ l.length ≤ c ∧ LiesAll w (From B) r l ad c K := by
  obtain ⟨ad, c, rfl, hle, ht, _⟩ := tab_of_owns h.1 (fun _ => rfl)
  exact ⟨ad, c, rfl, hle, ht, fun i X hX => (h.2 i X (List.getElem?_eq_some_iff.1 hX).1 hX).weak (show Sel.le (From B) ⟨True, fun b => B ≤ b ∧ some b ≠ (Value.slice ad l.length c).ownBlock⟩ from ⟨fun h => h, fun b hb => hb.1⟩)⟩

/-- What Fill answers. -/
def FillP (r : Nat) (T : Ty) (w : World) (e : Ending) (w' : World) : Prop := ∃ h' : Hd, e = .returned h'.val ∧ Lies w' (From w.heap.size) r T h' ∧ Kp w w'
def FillAllP (r : Nat) (l : List Ty) (w : World) (e : Ending) (w' : World) : Prop := ∃ ad c K', e = .returned (.slice ad l.length c) ∧ LiesAll w' (From w.heap.size) r l ad c K' ∧ Kp w w'
theorem c_FillAll0 (r : Nat) (cf : ∀ (T : Ty) (h : Hd) (w : World), Lies w A0 r T h → Calls Try.prog 18 #[h.val, .slice none 0 0, .slice none 0 0] w (FillP r T w))
    (l : List Ty) (ad : Option Addr) (c : Nat) (K : Nat → Hd) (w : World) (hl : LiesAll w A0 r l ad c K) (hb : l.length * 104 ≤ 140737488351232) :
    Calls Try.prog 16 #[.slice ad l.length c, .slice none 0 0, .slice none 0 0] w (FillAllP r l w) := by
  obtain ⟨i0, hi, hz0, hz1, hz2⟩ := info_parts infoT
  have HL := Lib.hid hl
  have CF := Lib.hid cf
  clear hl cf
  generalize hN : l.length = N at hb ⊢
  have HN := Lib.hid hN
  clear hN
  go_enter Try.func16, Try.ntmps16
  go_wp2_with fail
  go_loopw [7, 8] (fun v i wr => ∃ n K', n ≤ N ∧ i = .int .i64 (n : Nat) ∧ KidsIn wr w.heap.size 42 6 r l n v (fun _ => []) K' ∧ Kp w wr) (fun _ i _ => N - (intOf i).toNat)
  case atStart => exact ⟨0, K, by omega, rfl, kidsIn_nil _ _ _ _ _ _ _ _, Kp.refl _⟩
  case round =>
    obtain ⟨n, K', hn, rfl, hI, hkr⟩ := hrel
    have HI := Lib.hid hI
    have HK := Lib.hid hkr
    clear hI hkr
    by_cases hlt : n < N
    · obtain ⟨b, o, ha, hr⟩ := HL.out.1.at (by have := HN.out; omega)
      have HA := Lib.hid ha
      have HR := Lib.hid (hr n (by have := HN.out; omega))
      clear ha hr
      obtain ⟨X, hX⟩ : ∃ X, l[n]? = some X := ⟨_, List.getElem?_eq_getElem (by have := HN.out; omega)⟩
      have HX := Lib.hid hX
      clear hX
      have hsz := HK.out.sz
      go_wp2_with (first | ((with_reducible show wpList _ _ _ (⟨some 18, _, _, _, _, _⟩ :: _) _ _); refine wpList_index_tab (d := 18) _ _ _ rfl 42 Try.underlying23 6 rfl _ _ _ _ o (by rfl) HA.out n (by rfl) hlt ?_) | ((with_reducible show wpList _ _ _ (⟨some 19, _, _, _, _, _⟩ :: _) _ _); refine wpList_load_ty (d := 19) _ _ rfl _ Try.underlying42 w _ _ b (o + n * 6) (by rfl) rfl (by first | rfl | omega) (K n) HR.out HK.out rfl ?_) | (go_at_call 18; refine (CF.out X (K n) _ ((HL.out.2 n X HX.out).keep HK.out)).mono ?_; rintro e w1 ⟨h', rfl, hli, hk1⟩) | ((with_reducible show wpList _ _ _ (⟨some 24, _, _, _, _, _⟩ :: _) _ _); refine wpList_append_one_at (d := 24) _ _ 23 rfl w.heap.size 42 i0 _ 6 104 Try.underlying23 hi hz0 hz1 hz2 rfl (by decide) _ n _ (by rfl) _ ((HI.out.keep hk1).1) h'.cells _ _ _ (by rfl) (by first | rfl | simp) (by rfl) (by rfl) (Hd.one _) (by unfold maxLen; omega) (by omega) (by have := hk1.sz; omega) ?_; intro v1 w3 ho1 hg1 hat))
      go_roundw
      case rel => exact ⟨n + 1, put K' n h', by omega, by go_num, KidsIn.next hsz HI.out HX.out hk1 hli ((Kp.refl _).alloc _) ho1 hg1 hat, (HK.out.trans (hk1.alloc _)).grown hg1 (fun k hk => (HI.out.1.lt k hk).1)⟩
      case measure => simp [intOf]; omega
    · obtain rfl : N = n := by omega
      go_wp2_with fail
      go_ret
      have hI := HI.out
      rw [← HN.out] at hI
      obtain ⟨ad', c', rfl, _, hall⟩ := hI.all
      exact ⟨ad', c', K', rfl, hall, HK.out⟩
theorem c_FillAllN (r : Nat) (cf : ∀ (T : Ty) (h : Hd) (w : World), Lies w A0 r T h → Calls Try.prog 18 #[h.val, .slice none 0 0, .slice none 0 0] w (FillP r T w))
    (l : List Ty) (N : Nat) (hN : l.length = N) (ad : Option Addr) (c : Nat) (K : Nat → Hd) (w : World) (hl : LiesAll w A0 r l ad c K) (hb : N * 104 ≤ 140737488351232) :
    Calls Try.prog 16 #[.slice ad N c, .slice none 0 0, .slice none 0 0] w fun e w' => ∃ ad c K', e = .returned (.slice ad N c) ∧ LiesAll w' (From w.heap.size) r l ad c K' ∧ Kp w w' := by
  subst hN
  exact c_FillAll0 r cf l ad c K w hl hb

/-! ### what is built reads as the type -/
theorem Fr.set (w : World) (a : Addr) (v : Value) : Fr (fun k => k = a.block) w (w.setCell a v) := fun k hk hn => Below.heap_setCell _ _ _ _ hn
theorem Fr.trans {N : Nat → Prop} {a b c : World} (h : Fr N a b) (hs : a.heap.size ≤ b.heap.size) (k : Fr N b c) : Fr N a c := fun i hi hn => (k i (Nat.lt_of_lt_of_le hi hs) hn).trans (h i hi hn)
theorem Fr.mono {N N' : Nat → Prop} {a b : World} (h : Fr N a b) (hN : ∀ k, N k → N' k) : Fr N' a b := fun i hi hn => h i hi (fun x => hn (hN i x))
theorem kids_part {w : World} {r : Nat} {T : Ty} {K : Nat → Hd} (hh : ∀ i X, T.kids[i]? = some X → Lies w A0 r X (K i)) {a : Option Addr} {o n c : Nat} (ht : tab w A0 42 a n c 6 (fun i => (K (o + i)).cells)) (hn : o + n ≤ T.kids.length) :
    ((T.kids.drop o).take n).length = n ∧ LiesAll w A0 r ((T.kids.drop o).take n) a c (fun i => K (o + i)) := by
  have e : ((T.kids.drop o).take n).length = n := by rw [List.length_take, List.length_drop]; omega
  refine ⟨e, by rw [e]; exact ht, fun i X hX => hh (o + i) X ?_⟩
  rw [List.getElem?_take] at hX
  split at hX
  · rwa [List.getElem?_drop] at hX
  · cases hX
/-- The same head. -/
structure SameHead (T T' : Ty) : Prop where
  k : T'.k = T.k
  nm : T'.nm = T.nm
  con : T'.con = T.con
  fn : T'.fn = T.fn
  nl : T'.nl = T.nl
  len : T'.kids.length = T.kids.length
theorem SameHead.refl (T : Ty) : SameHead T T := ⟨rfl, rfl, rfl, rfl, rfl, rfl⟩
def three (fl ll : Nat) (A B C : Nat → Hd) (i : Nat) : Hd := if i < fl then A i else if i < fl + ll then B (i - fl) else C (i - fl - ll)
theorem built {w W : World} {B : Sel} {r : Nat} {T T' : Ty} {h : Hd} {K : Nat → Hd} (t : Top w A0 T h K) (e : SameHead T T') {fa la ra : Option Addr} {fc lc rc : Nat} {KF KL KR : Nat → Hd}
    (hf : tab W B 52 fa h.fl fc 7 (fun i => [.string (T.fn.getD i ByteArray.empty)] ++ (KF i).cells)) (hfk : ∀ i X, i < h.fl → T'.kids[i]? = some X → Lies W B r X (KF i))
    (hl : tab W B 42 la h.ll lc 6 (fun i => (KL i).cells)) (hlk : ∀ i X, i < h.ll → T'.kids[h.fl + i]? = some X → Lies W B r X (KL i))
    (hr : tab W B 42 ra h.rl rc 6 (fun i => (KR i).cells)) (hrk : ∀ i X, i < h.rl → T'.kids[h.fl + h.ll + i]? = some X → Lies W B r X (KR i)) :
    Lies W B (r + 1) T' ⟨h.k, h.nm, h.con, fa, h.fl, fc, la, h.ll, lc, ra, h.rl, rc⟩ := by
  have hes := t.es
  refine ⟨three h.fl h.ll KF KL KR, ⟨e.k.trans t.ek, e.nm.trans t.en, e.con.trans t.ec, (congrArg List.length e.fn).trans t.ef, e.nl.trans t.el, by simp only; rw [e.len]; exact t.es, t.rk, t.rc, t.rn, fun n hn => t.rns n (by rw [← e.fn]; exact hn), t.bf, t.bl, t.br, ?_, ?_, ?_⟩, ?_⟩
  · refine hf.congr fun i hi => ?_
    simp only [three, if_pos hi, e.fn]
    rfl
  · refine hl.congr fun i hi => ?_
    simp only [three, if_neg (show ¬ h.fl + i < h.fl by omega), if_pos (show h.fl + i < h.fl + h.ll by omega), Nat.add_sub_cancel_left]
  · refine hr.congr fun i hi => ?_
    simp only [three, if_neg (show ¬ h.fl + h.ll + i < h.fl by omega), if_neg (show ¬ h.fl + h.ll + i < h.fl + h.ll by omega), show h.fl + h.ll + i - h.fl - h.ll = i by omega]
  · intro i X hX
    have hi : i < T'.kids.length := (List.getElem?_eq_some_iff.1 hX).1
    rw [e.len, ← hes] at hi
    unfold three
    split
    · rename_i h1; exact hfk i X h1 hX
    · rename_i h1
      split
      · rename_i h2; exact hlk (i - h.fl) X (by omega) (by rw [show h.fl + (i - h.fl) = i by omega]; exact hX)
      · rename_i h2; exact hrk (i - h.fl - h.ll) X (by omega) (by rw [show h.fl + h.ll + (i - h.fl - h.ll) = i by omega]; exact hX)
theorem part_get {l : List Ty} {o n i : Nat} {X : Ty} (hi : i < n) (hX : l[o + i]? = some X) : ((l.drop o).take n)[i]? = some X := by
  rw [List.getElem?_take, if_pos hi, List.getElem?_drop]; exact hX
end Go.Proofs.Ytfjflfokmihcpaa

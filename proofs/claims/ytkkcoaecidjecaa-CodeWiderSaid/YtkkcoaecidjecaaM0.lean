/- Modules as plain data, what numbers are written of them, and how bytes are read as numbers. Plain: no program is walked here. -/
namespace Go.Proofs.Ytkkcoaecidjecaa
set_option linter.unusedVariables false
structure Sh where
  k : Int
  l : List Int
  r : Int
structure Cs where
  s : Bool
  c : Int
  v : Int
  t : Int
structure Ins where
  o : Int
  a : Int
  b : Int
  n : Int
  cs : List Cs
structure Fu where
  p : Int
  lo : List Int
  ca : List Int
  r : Int
  co : List Ins
structure Mo where
  ty : List Sh
  fu : List Fu
/-- What is written: a number that may be from least to 2 to the 31 less 1, less that; or any word. -/
inductive It where
  | sm (n least : Int)
  | nu (n : Nat)
def numF : Nat → Nat → List UInt8
  | 0, n => [UInt8.ofNat n]
  | f + 1, n => if n < 128 then [UInt8.ofNat n] else UInt8.ofNat (n % 128 + 128) :: numF f (n / 128)
def num (n : Nat) : List UInt8 := numF 9 n
/-- What is written so far, and whether a number was beyond. -/
abbrev Ou := List UInt8 × Bool
def badN (n least : Int) : Bool := decide (n < least) || decide (2147483647 < n)
def put1 (o : Ou) : It → Ou
  | .sm n least => if badN n least = true then (o.1, true) else (o.1 ++ num (n - least).toNat, o.2)
  | .nu n => (o.1 ++ num n, o.2)
def putR (o : Ou) : It → Ou
  | .sm n least => if badN n least = true then (o.1 ++ num 0, true) else (o.1 ++ num (n - least).toNat, o.2)
  | .nu n => (o.1 ++ num n, o.2)
def puts (o : Ou) (l : List It) : Ou := l.foldl put1 o
def putsR (o : Ou) (l : List It) : Ou := l.foldl putR o
theorem puts_nil (o : Ou) : puts o [] = o := rfl
theorem puts_cons (o : Ou) (i : It) (l : List It) : puts o (i :: l) = puts (put1 o i) l := rfl
theorem puts_append (o : Ou) (l m : List It) : puts o (l ++ m) = puts (puts o l) m := List.foldl_append
theorem putsR_append (o : Ou) (l m : List It) : putsR o (l ++ m) = putsR (putsR o l) m := List.foldl_append
def lenI (n : Nat) : It := .sm (n : Int) 0
def intI (x : Int) : It := .sm x 0
def itInts (l : List Int) : List It := lenI l.length :: l.map intI
def itCase (c : Cs) : List It := [.nu (if c.s = true then 1 else 0), .sm c.c 0, .sm c.v (-1), .sm c.t 0]
def itIns (i : Ins) : List It := [.sm i.o 0, .sm i.a (-1), .sm i.b (-1), .nu i.n.toNat, lenI i.cs.length] ++ i.cs.flatMap itCase
def itFu (f : Fu) : List It := .sm f.p 0 :: (itInts f.lo ++ (itInts f.ca ++ (.sm f.r 0 :: lenI f.co.length :: f.co.flatMap itIns)))
def itSh (s : Sh) : List It := .sm s.k 0 :: (itInts s.l ++ [.sm s.r 0])
def itMo (m : Mo) : List It := lenI m.ty.length :: (m.ty.flatMap itSh ++ (lenI m.fu.length :: m.fu.flatMap itFu))
theorem take_flat {α : Type} (f : α → List It) (l : List α) {k : Nat} {x : α} (h : l[k]? = some x) : (l.take (k + 1)).flatMap f = (l.take k).flatMap f ++ f x := by
  rw [List.take_add_one, h]
  simp
theorem take_map {α β : Type} (f : α → β) (l : List α) {k : Nat} {x : α} (h : l[k]? = some x) : (l.take (k + 1)).map f = (l.take k).map f ++ [f x] := by
  rw [List.take_add_one, h]
  simp
/-! ### how much there is -/
theorem numF_len : ∀ f n, 1 ≤ (numF f n).length ∧ (numF f n).length ≤ f + 1
  | 0, n => by simp [numF]
  | f + 1, n => by
    rw [numF]
    split
    · simp
    · have := numF_len f (n / 128)
      simp only [List.length_cons]; omega
theorem num_len (n : Nat) : 1 ≤ (num n).length ∧ (num n).length ≤ 10 := numF_len 9 n
theorem put1_len (o : Ou) (i : It) : o.1.length ≤ (put1 o i).1.length ∧ (put1 o i).1.length ≤ o.1.length + 10 := by
  cases i with
  | sm n l =>
    have := num_len (n - l).toNat
    by_cases h : badN n l = true
    · simp [put1, h]
    · simp [put1, h]; omega
  | nu n => have := num_len n; unfold put1; simp only [List.length_append]; omega
theorem putR_len (o : Ou) (i : It) : o.1.length ≤ (putR o i).1.length ∧ (putR o i).1.length ≤ o.1.length + 10 := by
  cases i with
  | sm n l =>
    have := num_len (n - l).toNat
    have := num_len 0
    by_cases h : badN n l = true
    · simp [putR, h]; omega
    · simp [putR, h]; omega
  | nu n => have := num_len n; unfold putR; simp only [List.length_append]; omega
theorem puts_len : ∀ (l : List It) (o : Ou), (puts o l).1.length ≤ o.1.length + 10 * l.length
  | [], o => by simp [puts]
  | i :: l, o => by
    have h1 := puts_len l (put1 o i)
    have h2 := (put1_len o i).2
    rw [puts_cons]; simp only [List.length_cons]; omega
theorem putsR_len : ∀ (l : List It) (o : Ou), (putsR o l).1.length ≤ o.1.length + 10 * l.length
  | [], o => by simp [putsR]
  | i :: l, o => by
    have h1 := putsR_len l (putR o i)
    have h2 := (putR_len o i).2
    show (putsR (putR o i) l).1.length ≤ _
    simp only [List.length_cons]; omega
/-- The two writers differ in nothing but where a number is beyond. -/
theorem puts_off : ∀ (l : List It) (o p : Ou), o.2 = p.2 → (puts o l).2 = (putsR p l).2 ∧ (o.1 = p.1 → (puts o l).2 = false → (puts o l).1 = (putsR p l).1)
  | [], o, p, h => ⟨h, fun h _ => h⟩
  | i :: l, o, p, h => by
    have key : (put1 o i).2 = (putR p i).2 ∧ (o.1 = p.1 → (put1 o i).2 = false → (put1 o i).1 = (putR p i).1) := by
      cases i with
      | sm n ls =>
        by_cases hb : badN n ls = true
        · simp [put1, putR, hb]
        · simp [put1, putR, hb, h]
          intro h1 _; rw [h1]
      | nu n => exact ⟨h, fun h _ => by unfold put1 putR; simp only; rw [h]⟩
    have ih := puts_off l (put1 o i) (putR p i) key.1
    refine ⟨ih.1, fun h1 h2 => ?_⟩
    have mono : ∀ (l : List It) (o : Ou), (puts o l).2 = false → o.2 = false := by
      intro l
      induction l with
      | nil => intro o h; exact h
      | cons i l ihl =>
        intro o h
        have := ihl _ h
        cases i with
        | sm n ls =>
          by_cases hb : badN n ls = true
          · simp [put1, hb] at this
          · simpa [put1, hb] using this
        | nu n => exact this
    exact ih.2 (key.2 h1 (mono _ _ h2)) h2
/-! ### how it is read -/
def rdA : Nat → Nat → List UInt8 → Option (Nat × Nat)
  | _, _, [] => none
  | i, n, c :: r => if (i = 9 ∧ 1 < c.toNat) ∨ (0 < i ∧ c.toNat = 0) then none else if c.toNat < 128 then some (n + c.toNat * 128 ^ i, i + 1) else rdA (i + 1) (n + c.toNat % 128 * 128 ^ i) r
/-- The number at a place, and how many bytes it takes. -/
def pnum (b : List UInt8) (p : Nat) : Option (Nat × Nat) := rdA 0 0 (b.drop p)
/-- What is read of bytes b from a place on, and where the next begins; or where the number at fault begins. -/
abbrev Pr (α : Type) := List UInt8 → Nat → Except Nat (α × Nat)
def pUpto (most : Nat) : Pr Nat := fun b p => match pnum b p with
  | none => .error p
  | some (n, s) => if most < n then .error p else .ok (n, p + s)
def pThen {α β : Type} (f : Pr α) (g : α → Pr β) : Pr β := fun b p => match f b p with
  | .error q => .error q
  | .ok (x, q) => g x b q
def pPure {α : Type} (x : α) : Pr α := fun _ p => .ok (x, p)
def pSmall (least : Int) : Pr Int := pThen (pUpto (2147483647 - least).toNat) fun n => pPure ((n : Int) + least)
/-- So many, one after another. -/
def pRep {α : Type} (f : Pr α) : Nat → List α → Pr (List α)
  | 0, l => pPure l
  | n + 1, l => pThen f fun x => pRep f n (l ++ [x])
def pList {α : Type} (f : Pr α) : Pr (List α) := pThen (pSmall 0) fun n => pRep f n.toNat []
def pInts : Pr (List Int) := pList (pSmall 0)
def pCase : Pr Cs := pThen (pUpto 1) fun s => pThen (pSmall 0) fun c => pThen (pSmall (-1)) fun v => pThen (pSmall 0) fun t => pPure ⟨s == 1, c, v, t⟩
def pIns : Pr Ins := pThen (pSmall 0) fun o => pThen (pSmall (-1)) fun a => pThen (pSmall (-1)) fun x => pThen (pUpto 18446744073709551615) fun n => pThen (pList pCase) fun cs => pPure ⟨o, a, x, n, cs⟩
def pSh : Pr Sh := pThen (pSmall 0) fun k => pThen pInts fun l => pThen (pSmall 0) fun r => pPure ⟨k, l, r⟩
def pFu : Pr Fu := pThen (pSmall 0) fun p => pThen pInts fun lo => pThen pInts fun ca => pThen (pSmall 0) fun r => pThen (pList pIns) fun co => pPure ⟨p, lo, ca, r, co⟩
def pMo : Pr Mo := pThen (pList pSh) fun ty => pThen (pList pFu) fun fu => pPure ⟨ty, fu⟩
/-- Where b is no module: the place at fault. -/
def decP (b : List UInt8) : Except Nat Mo := match pMo b 0 with
  | .error p => .error p
  | .ok (m, p) => if p < b.length then .error p else .ok m
/-! ### the same -/
def sameCs (a b : Cs) : Bool := a.s == b.s && a.c == b.c && a.v == b.v && a.t == b.t
def sameL {α : Type} (f : α → α → Bool) : List α → List α → Bool
  | [], [] => true
  | x :: l, y :: m => f x y && sameL f l m
  | _, _ => false
def eqI (a b : Int) : Bool := a == b
theorem eqI_iff (a b : Int) : eqI a b = true ↔ a = b := by simp [eqI]
def sameSh (a b : Sh) : Bool := a.k == b.k && a.r == b.r && sameL eqI a.l b.l
def sameIns (a b : Ins) : Bool := a.o == b.o && a.a == b.a && a.b == b.b && a.n == b.n && sameL sameCs a.cs b.cs
def sameFu (a b : Fu) : Bool := a.p == b.p && a.r == b.r && sameL eqI a.lo b.lo && sameL eqI a.ca b.ca && sameL sameIns a.co b.co
def sameMo (a b : Mo) : Bool := sameL sameSh a.ty b.ty && sameL sameFu a.fu b.fu
theorem sameL_iff {α : Type} {f : α → α → Bool} (hf : ∀ x y, f x y = true ↔ x = y) : ∀ {l m : List α}, sameL f l m = true ↔ l = m
  | [], [] => by simp [sameL]
  | [], y :: m => by simp [sameL]
  | x :: l, [] => by simp [sameL]
  | x :: l, y :: m => by
    rw [sameL, Bool.and_eq_true, hf, sameL_iff hf]
    simp
theorem sameSh_iff (a b : Sh) : sameSh a b = true ↔ a = b := by
  cases a; cases b; simp [sameSh, sameL_iff eqI_iff]; exact ⟨fun ⟨⟨a, b⟩, c⟩ => ⟨a, c, b⟩, fun ⟨a, b, c⟩ => ⟨⟨a, c⟩, b⟩⟩
theorem sameCs_iff (a b : Cs) : sameCs a b = true ↔ a = b := by
  cases a; cases b; simp [sameCs, and_assoc]
theorem sameIns_iff (a b : Ins) : sameIns a b = true ↔ a = b := by
  cases a; cases b; simp [sameIns, and_assoc, sameL_iff sameCs_iff]
theorem sameFu_iff (a b : Fu) : sameFu a b = true ↔ a = b := by
  cases a; cases b; simp only [sameFu, Bool.and_eq_true, beq_iff_eq, sameL_iff eqI_iff, sameL_iff sameIns_iff, Fu.mk.injEq]
  exact ⟨fun ⟨⟨⟨⟨a, b⟩, c⟩, d⟩, e⟩ => ⟨a, c, d, b, e⟩, fun ⟨a, c, d, b, e⟩ => ⟨⟨⟨⟨a, b⟩, c⟩, d⟩, e⟩⟩
theorem sameMo_iff (a b : Mo) : sameMo a b = true ↔ a = b := by
  cases a; cases b; simp [sameMo, sameL_iff sameSh_iff, sameL_iff sameFu_iff]
theorem sameL_len {α : Type} {f : α → α → Bool} : ∀ {l m : List α}, l.length ≠ m.length → sameL f l m = false
  | [], [], h => absurd rfl h
  | [], y :: m, _ => rfl
  | x :: l, [], _ => rfl
  | x :: l, y :: m, h => by rw [sameL, sameL_len (l := l) (m := m) (by simpa using h)]; simp
theorem sameL_bad {α : Type} {f : α → α → Bool} : ∀ {l m : List α} {k : Nat} {x y : α}, l[k]? = some x → m[k]? = some y → f x y = false → sameL f l m = false
  | a :: l, b :: m, 0, x, y, h1, h2, h => by simp at h1 h2; subst h1; subst h2; rw [sameL, h]; rfl
  | a :: l, b :: m, k + 1, x, y, h1, h2, h => by rw [sameL, sameL_bad (l := l) (m := m) (k := k) (by simpa using h1) (by simpa using h2) h]; simp
theorem sameL_all {α : Type} {f : α → α → Bool} : ∀ {l m : List α}, l.length = m.length → (∀ (i : Nat) (x y : α), l[i]? = some x → m[i]? = some y → f x y = true) → sameL f l m = true
  | [], [], _, _ => rfl
  | [], y :: m, h, _ => by simp at h
  | x :: l, [], h, _ => by simp at h
  | x :: l, y :: m, h, g => by rw [sameL, g 0 x y rfl rfl, sameL_all (l := l) (m := m) (by simpa using h) (fun i a b ha hb => g (i + 1) a b (by simpa using ha) (by simpa using hb))]; rfl
end Go.Proofs.Ytkkcoaecidjecaa

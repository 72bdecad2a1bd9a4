/- Plain mathematics of the field with 256 elements as the program reckons it, over BitVec 8: products are linear in each factor, so what two bilinear functions are is decided at the eight powers of two. No program is named here. -/
import Derived.Laws.BitsAllLaws
namespace Go.Proofs.Ytokhldihfbaeoaa.Oct

def t2 (a : BitVec 8) : BitVec 8 := (a <<< 1) ^^^ (if a.msb then 27#8 else 0#8)
def dbl : Nat → BitVec 8 → BitVec 8
  | 0, a => a
  | k + 1, a => t2 (dbl k a)
def mulTo (a b : BitVec 8) : Nat → BitVec 8
  | 0 => 0#8
  | k + 1 => mulTo a b k ^^^ (if b.getLsbD k then dbl k a else 0#8)
def mul (a b : BitVec 8) : BitVec 8 := mulTo a b 8

/- linear functions -/
def Lin (f : BitVec 8 → BitVec 8) : Prop := ∀ x y, f (x ^^^ y) = f x ^^^ f y

theorem Lin.zero {f : BitVec 8 → BitVec 8} (h : Lin f) : f 0#8 = 0#8 := by
  have := h 0#8 0#8
  simpa using this

def part (x : BitVec 8) (i : Nat) : BitVec 8 := if x.getLsbD i then 1#8 <<< i else 0#8
theorem parts (x : BitVec 8) : x = part x 0 ^^^ part x 1 ^^^ part x 2 ^^^ part x 3 ^^^ part x 4 ^^^ part x 5 ^^^ part x 6 ^^^ part x 7 := by
  revert x; decide +kernel

theorem Lin.ext {f g : BitVec 8 → BitVec 8} (hf : Lin f) (hg : Lin g) (h : ∀ i : Fin 8, f (1#8 <<< i.val) = g (1#8 <<< i.val)) (x : BitVec 8) : f x = g x := by
  have p : ∀ i : Fin 8, f (part x i.val) = g (part x i.val) := by
    intro i
    unfold part
    split
    · exact h i
    · rw [hf.zero, hg.zero]
  rw [parts x]
  simp only [hf _ _, hg _ _]
  have p0 := p 0; have p1 := p 1; have p2 := p 2; have p3 := p 3; have p4 := p 4; have p5 := p 5; have p6 := p 6; have p7 := p 7
  simp only [Fin.val_zero, Fin.val_one] at p0 p1
  rw [p0, p1]
  exact congr (congrArg _ (congr (congrArg _ (congr (congrArg _ (congr (congrArg _ (congr (congrArg _ (congr (congrArg _ rfl) p2)) p3)) p4)) p5)) p6)) p7

theorem xor4 (a b c d : BitVec 8) : (a ^^^ b) ^^^ (c ^^^ d) = (a ^^^ c) ^^^ (b ^^^ d) := by
  rw [BitVec.xor_assoc, BitVec.xor_assoc, ← BitVec.xor_assoc b c d, BitVec.xor_comm b c, BitVec.xor_assoc c b d]

theorem t2_lin : Lin t2 := by
  intro x y
  unfold t2
  rw [BitVec.shiftLeft_xor_distrib, BitVec.msb_xor, xor4]
  congr 1
  cases x.msb <;> cases y.msb <;> decide

theorem dbl_lin (k : Nat) : Lin (dbl k) := by
  induction k with
  | zero => intro x y; rfl
  | succ k ih => intro x y; show t2 (dbl k (x ^^^ y)) = _; rw [ih x y, t2_lin]; rfl

theorem mulTo_left (b : BitVec 8) (k : Nat) : Lin fun a => mulTo a b k := by
  induction k with
  | zero => intro x y; simp [mulTo]
  | succ k ih =>
    intro x y
    have e := ih x y
    simp only at e
    simp only [mulTo]
    rw [e, xor4]
    congr 1
    cases b.getLsbD k
    · simp
    · simp only [if_true]; exact dbl_lin k x y

theorem mulTo_right (a : BitVec 8) (k : Nat) : Lin fun b => mulTo a b k := by
  induction k with
  | zero => intro x y; simp [mulTo]
  | succ k ih =>
    intro x y
    have e := ih x y
    simp only at e
    simp only [mulTo]
    rw [e, xor4, BitVec.getLsbD_xor]
    congr 1
    cases x.getLsbD k <;> cases y.getLsbD k <;> simp

theorem mul_left (b : BitVec 8) : Lin fun a => mul a b := mulTo_left b 8
theorem mul_right (a : BitVec 8) : Lin fun b => mul a b := mulTo_right a 8
theorem xor_mul (a b c : BitVec 8) : mul (a ^^^ b) c = mul a c ^^^ mul b c := mul_left c a b
theorem mul_xor (a b c : BitVec 8) : mul a (b ^^^ c) = mul a b ^^^ mul a c := mul_right a b c

theorem mul_comm (a b : BitVec 8) : mul a b = mul b a := by
  refine Lin.ext (f := fun x => mul x b) (g := fun x => mul b x) (mul_left b) (mul_right b) (fun i => ?_) a
  refine Lin.ext (f := fun y => mul (1#8 <<< i.val) y) (g := fun y => mul y (1#8 <<< i.val)) (mul_right _) (mul_left _) (fun j => ?_) b
  revert i j; decide +kernel

theorem mul_assoc (a b c : BitVec 8) : mul (mul a b) c = mul a (mul b c) := by
  refine Lin.ext (f := fun x => mul (mul x b) c) (g := fun x => mul x (mul b c)) (fun x y => by simp only [xor_mul]) (mul_left _) (fun i => ?_) a
  refine Lin.ext (f := fun x => mul (mul (1#8 <<< i.val) x) c) (g := fun x => mul (1#8 <<< i.val) (mul x c)) (fun x y => by simp only [mul_xor, xor_mul]) (fun x y => by simp only [mul_xor, xor_mul]) (fun j => ?_) b
  refine Lin.ext (f := fun x => mul (mul (1#8 <<< i.val) (1#8 <<< j.val)) x) (g := fun x => mul (1#8 <<< i.val) (mul (1#8 <<< j.val) x)) (mul_right _) (fun x y => by simp only [mul_xor]) (fun k => ?_) c
  revert i j k; decide +kernel

theorem mul_one (a : BitVec 8) : mul a 1#8 = a := by revert a; decide +kernel
theorem one_mul (a : BitVec 8) : mul 1#8 a = a := by rw [mul_comm, mul_one]
theorem mul_zero (a : BitVec 8) : mul a 0#8 = 0#8 := (mul_right a).zero
theorem mul_two (a : BitVec 8) : mul a 2#8 = t2 a := by revert a; decide +kernel

/- the reference's product: a whole polynomial of 15 bits first, then what stands from bit 8 on is taken away -/
def rT (a b : BitVec 8) : Nat → BitVec 16
  | 0 => 0#16
  | k + 1 => rT a b k ^^^ (if b.getLsbD k then (a.zeroExtend 16) <<< k else 0#16)
def rStep (t : BitVec 16) (i : Nat) : BitVec 16 := t ^^^ (if t.getLsbD i then 283#16 <<< (i - 8) else 0#16)
def rDown (t : BitVec 16) : Nat → BitVec 16
  | 0 => t
  | k + 1 => rStep (rDown t k) (14 - k)
def rMul (a b : BitVec 8) : BitVec 8 := (rDown (rT a b 8) 7).truncate 8

theorem xor4w {n : Nat} (a b c d : BitVec n) : (a ^^^ b) ^^^ (c ^^^ d) = (a ^^^ c) ^^^ (b ^^^ d) := by
  rw [BitVec.xor_assoc, BitVec.xor_assoc, ← BitVec.xor_assoc b c d, BitVec.xor_comm b c, BitVec.xor_assoc c b d]

theorem rT_left (b : BitVec 8) (k : Nat) (x y : BitVec 8) : rT (x ^^^ y) b k = rT x b k ^^^ rT y b k := by
  induction k with
  | zero => simp [rT]
  | succ k ih =>
    simp only [rT]
    rw [ih, xor4w]
    congr 1
    cases b.getLsbD k
    · simp
    · simp only [if_true]
      rw [← BitVec.shiftLeft_xor_distrib]
      rw [show (x ^^^ y).zeroExtend 16 = x.zeroExtend 16 ^^^ y.zeroExtend 16 from BitVec.setWidth_xor]

theorem rT_right (a : BitVec 8) (k : Nat) (x y : BitVec 8) : rT a (x ^^^ y) k = rT a x k ^^^ rT a y k := by
  induction k with
  | zero => simp [rT]
  | succ k ih =>
    simp only [rT]
    rw [ih, xor4w, BitVec.getLsbD_xor]
    congr 1
    cases x.getLsbD k <;> cases y.getLsbD k <;> simp

theorem rStep_lin (i : Nat) (x y : BitVec 16) : rStep (x ^^^ y) i = rStep x i ^^^ rStep y i := by
  unfold rStep
  rw [xor4w, BitVec.getLsbD_xor]
  congr 1
  cases x.getLsbD i <;> cases y.getLsbD i <;> simp

theorem rDown_lin (k : Nat) (x y : BitVec 16) : rDown (x ^^^ y) k = rDown x k ^^^ rDown y k := by
  induction k with
  | zero => rfl
  | succ k ih => simp only [rDown]; rw [ih, rStep_lin]

theorem rMul_left (b : BitVec 8) : Lin fun a => rMul a b := by
  intro x y
  simp only [rMul]
  rw [rT_left, rDown_lin]
  exact BitVec.setWidth_xor
theorem rMul_right (a : BitVec 8) : Lin fun b => rMul a b := by
  intro x y
  simp only [rMul]
  rw [rT_right, rDown_lin]
  exact BitVec.setWidth_xor

theorem rMul_eq (a b : BitVec 8) : rMul a b = mul a b := by
  refine Lin.ext (f := fun x => rMul x b) (g := fun x => mul x b) (rMul_left b) (mul_left b) (fun i => ?_) a
  refine Lin.ext (f := fun y => rMul (1#8 <<< i.val) y) (g := fun y => mul (1#8 <<< i.val) y) (rMul_right _) (mul_right _) (fun j => ?_) b
  revert i j; decide +kernel

/- the inverse, as 2 + 4 + .. + 128 -/
def invP (a : BitVec 8) : Nat → BitVec 8
  | 0 => a
  | k + 1 => mul (invP a k) (invP a k)
def invO (a : BitVec 8) : Nat → BitVec 8
  | 0 => 1#8
  | k + 1 => mul (invO a k) (invP a (k + 1))
def inv (a : BitVec 8) : BitVec 8 := invO a 7

theorem inv_one (a : BitVec 8) : mul a (inv a) = if a = 0#8 then 0#8 else 1#8 := by revert a; decide +kernel
theorem inv_inv (a : BitVec 8) : inv (inv a) = a := by
  by_cases h : a = 0#8
  · subst h; decide +kernel
  · have h1 : mul a (inv a) = 1#8 := by rw [inv_one, if_neg h]
    have h2 : inv a ≠ 0#8 := by
      intro e
      rw [e, mul_zero] at h1
      exact absurd h1 (by decide)
    have h3 : mul (inv a) (inv (inv a)) = 1#8 := by rw [inv_one, if_neg h2]
    rw [← one_mul (inv (inv a)), ← h1, mul_assoc, h3, mul_one]

/- powers -/
def pow (a : BitVec 8) : Nat → BitVec 8
  | 0 => 1#8
  | k + 1 => mul (pow a k) a
theorem pow_add (a : BitVec 8) (m n : Nat) : pow a (m + n) = mul (pow a m) (pow a n) := by
  induction n with
  | zero => exact (mul_one _).symm
  | succ n ih => show mul (pow a (m + n)) a = mul (pow a m) (mul (pow a n) a); rw [ih, mul_assoc]
theorem invP_pow (a : BitVec 8) (k : Nat) : invP a k = pow a (2 ^ k) := by
  induction k with
  | zero => exact (one_mul a).symm
  | succ k ih => show mul (invP a k) (invP a k) = _; rw [ih, ← pow_add]; congr 1; rw [Nat.pow_succ]; omega
theorem inv_pow (a : BitVec 8) : inv a = pow a 254 := by
  show mul (mul (mul (mul (mul (mul (mul 1#8 (invP a 1)) (invP a 2)) (invP a 3)) (invP a 4)) (invP a 5)) (invP a 6)) (invP a 7) = _
  rw [one_mul]
  simp only [invP_pow, ← pow_add]
theorem pow_255 (a : BitVec 8) : pow a 255 = if a = 0#8 then 0#8 else 1#8 := by
  show mul (pow a 254) a = _
  rw [← inv_pow, mul_comm, inv_one]

/- the box -/
def boxTo (b : BitVec 8) : Nat → BitVec 8
  | 0 => 99#8
  | k + 1 => boxTo b k ^^^ b.rotateLeft k
def box (a : BitVec 8) : BitVec 8 := boxTo (inv a) 5

def rBit (b : BitVec 8) (i : Nat) : BitVec 8 :=
  ((((((99#8 >>> i) ^^^ (b >>> i)) ^^^ (b >>> ((i + 4) % 8))) ^^^ (b >>> ((i + 5) % 8))) ^^^ (b >>> ((i + 6) % 8))) ^^^ (b >>> ((i + 7) % 8)))
def rBoxTo (b : BitVec 8) : Nat → BitVec 8
  | 0 => 0#8
  | k + 1 => rBoxTo b k ||| ((rBit b k &&& 1#8) <<< k)
theorem rBox_eq (b : BitVec 8) : rBoxTo b 8 = boxTo b 5 := by revert b; decide +kernel

/- the box taken back -/
def unaff (c : BitVec 8) : BitVec 8 := (c.rotateLeft 1 ^^^ c.rotateLeft 3 ^^^ c.rotateLeft 6) ^^^ 5#8
theorem unaff_aff (b : BitVec 8) : unaff (boxTo b 5) = b := by revert b; decide +kernel
theorem box_inj {a b : BitVec 8} (h : box a = box b) : a = b := by
  have h1 : inv a = inv b := by rw [← unaff_aff (inv a), ← unaff_aff (inv b)]; exact congrArg unaff h
  rw [← inv_inv a, ← inv_inv b, h1]
theorem box_ne (a : BitVec 8) : box a ≠ a ∧ box a ≠ ~~~a := by revert a; decide +kernel

end Go.Proofs.Ytokhldihfbaeoaa.Oct

import Derived.Laws.BitsAllLaws
import Derived.Test.YtamemjldafoolaaGreatLib

/-! ## OctMath -/
/- Plain mathematics of the field with 256 elements as the program reckons it, over BitVec 8: products are linear in each factor, so what two bilinear functions are is decided at the eight powers of two. No program is named here. -/
namespace Go.Proofs.YtamemjldafoolaaGreat.Oct

def t2 (a : BitVec 8) : BitVec 8 := (a <<< 1) ^^^ (if a.msb then 27#8 else 0#8)
def dbl : Nat → BitVec 8 → BitVec 8
  | 0, a => a
  | k + 1, a => t2 (dbl k a)
def mulTo (a b : BitVec 8) : Nat → BitVec 8
  | 0 => 0#8
  | k + 1 => mulTo a b k ^^^ (if b.getLsbD k then dbl k a else 0#8)
def mul (a b : BitVec 8) : BitVec 8 := mulTo a b 8

/- linear functions -/
def Lin (f : BitVec 8 → BitVec 8) : Prop := ∀ x y, f (x ^^^ y) = f x ^^^ f y

theorem Lin.zero {f : BitVec 8 → BitVec 8} (h : Lin f) : f 0#8 = 0#8 := by
  have := h 0#8 0#8
  simpa using this

def part (x : BitVec 8) (i : Nat) : BitVec 8 := if x.getLsbD i then 1#8 <<< i else 0#8
theorem parts (x : BitVec 8) : x = part x 0 ^^^ part x 1 ^^^ part x 2 ^^^ part x 3 ^^^ part x 4 ^^^ part x 5 ^^^ part x 6 ^^^ part x 7 := by
  revert x; decide +kernel

theorem Lin.ext {f g : BitVec 8 → BitVec 8} (hf : Lin f) (hg : Lin g) (h : ∀ i : Fin 8, f (1#8 <<< i.val) = g (1#8 <<< i.val)) (x : BitVec 8) : f x = g x := by
  have p : ∀ i : Fin 8, f (part x i.val) = g (part x i.val) := by
    intro i
    unfold part
    split
    · exact h i
    · rw [hf.zero, hg.zero]
  rw [parts x]
  simp only [hf _ _, hg _ _]
  have p0 := p 0; have p1 := p 1; have p2 := p 2; have p3 := p 3; have p4 := p 4; have p5 := p 5; have p6 := p 6; have p7 := p 7
  simp only [Fin.val_zero, Fin.val_one] at p0 p1
  rw [p0, p1]
  exact congr (congrArg _ (congr (congrArg _ (congr (congrArg _ (congr (congrArg _ (congr (congrArg _ (congr (congrArg _ rfl) p2)) p3)) p4)) p5)) p6)) p7

theorem xor4 (a b c d : BitVec 8) : (a ^^^ b) ^^^ (c ^^^ d) = (a ^^^ c) ^^^ (b ^^^ d) := by
  rw [BitVec.xor_assoc, BitVec.xor_assoc, ← BitVec.xor_assoc b c d, BitVec.xor_comm b c, BitVec.xor_assoc c b d]

theorem t2_lin : Lin t2 := by
  intro x y
  unfold t2
  rw [BitVec.shiftLeft_xor_distrib, BitVec.msb_xor, xor4]
  congr 1
  cases x.msb <;> cases y.msb <;> decide

theorem dbl_lin (k : Nat) : Lin (dbl k) := by
  induction k with
  | zero => intro x y; rfl
  | succ k ih => intro x y; show t2 (dbl k (x ^^^ y)) = _; rw [ih x y, t2_lin]; rfl

theorem mulTo_left (b : BitVec 8) (k : Nat) : Lin fun a => mulTo a b k := by
  induction k with
  | zero => intro x y; simp [mulTo]
  | succ k ih =>
    intro x y
    have e := ih x y
    simp only at e
    simp only [mulTo]
    rw [e, xor4]
    congr 1
    cases b.getLsbD k
    · simp
    · simp only [if_true]; exact dbl_lin k x y

theorem mulTo_right (a : BitVec 8) (k : Nat) : Lin fun b => mulTo a b k := by
  induction k with
  | zero => intro x y; simp [mulTo]
  | succ k ih =>
    intro x y
    have e := ih x y
    simp only at e
    simp only [mulTo]
    rw [e, xor4, BitVec.getLsbD_xor]
    congr 1
    cases x.getLsbD k <;> cases y.getLsbD k <;> simp

theorem mul_left (b : BitVec 8) : Lin fun a => mul a b := mulTo_left b 8
theorem mul_right (a : BitVec 8) : Lin fun b => mul a b := mulTo_right a 8
theorem xor_mul (a b c : BitVec 8) : mul (a ^^^ b) c = mul a c ^^^ mul b c := mul_left c a b
theorem mul_xor (a b c : BitVec 8) : mul a (b ^^^ c) = mul a b ^^^ mul a c := mul_right a b c

theorem mul_comm (a b : BitVec 8) : mul a b = mul b a := by
  refine Lin.ext (f := fun x => mul x b) (g := fun x => mul b x) (mul_left b) (mul_right b) (fun i => ?_) a
  refine Lin.ext (f := fun y => mul (1#8 <<< i.val) y) (g := fun y => mul y (1#8 <<< i.val)) (mul_right _) (mul_left _) (fun j => ?_) b
  revert i j; decide +kernel

theorem mul_assoc (a b c : BitVec 8) : mul (mul a b) c = mul a (mul b c) := by
  refine Lin.ext (f := fun x => mul (mul x b) c) (g := fun x => mul x (mul b c)) (fun x y => by simp only [xor_mul]) (mul_left _) (fun i => ?_) a
  refine Lin.ext (f := fun x => mul (mul (1#8 <<< i.val) x) c) (g := fun x => mul (1#8 <<< i.val) (mul x c)) (fun x y => by simp only [mul_xor, xor_mul]) (fun x y => by simp only [mul_xor, xor_mul]) (fun j => ?_) b
  refine Lin.ext (f := fun x => mul (mul (1#8 <<< i.val) (1#8 <<< j.val)) x) (g := fun x => mul (1#8 <<< i.val) (mul (1#8 <<< j.val) x)) (mul_right _) (fun x y => by simp only [mul_xor]) (fun k => ?_) c
  revert i j k; decide +kernel

theorem mul_one (a : BitVec 8) : mul a 1#8 = a := by revert a; decide +kernel
theorem one_mul (a : BitVec 8) : mul 1#8 a = a := by rw [mul_comm, mul_one]
theorem mul_zero (a : BitVec 8) : mul a 0#8 = 0#8 := (mul_right a).zero
theorem mul_two (a : BitVec 8) : mul a 2#8 = t2 a := by revert a; decide +kernel

/- the reference's product: a whole polynomial of 15 bits first, then what stands from bit 8 on is taken away -/
def rT (a b : BitVec 8) : Nat → BitVec 16
  | 0 => 0#16
  | k + 1 => rT a b k ^^^ (if b.getLsbD k then (a.zeroExtend 16) <<< k else 0#16)
def rStep (t : BitVec 16) (i : Nat) : BitVec 16 := t ^^^ (if t.getLsbD i then 283#16 <<< (i - 8) else 0#16)
def rDown (t : BitVec 16) : Nat → BitVec 16
  | 0 => t
  | k + 1 => rStep (rDown t k) (14 - k)
def rMul (a b : BitVec 8) : BitVec 8 := (rDown (rT a b 8) 7).truncate 8

theorem xor4w {n : Nat} (a b c d : BitVec n) : (a ^^^ b) ^^^ (c ^^^ d) = (a ^^^ c) ^^^ (b ^^^ d) := by
  rw [BitVec.xor_assoc, BitVec.xor_assoc, ← BitVec.xor_assoc b c d, BitVec.xor_comm b c, BitVec.xor_assoc c b d]

theorem rT_left (b : BitVec 8) (k : Nat) (x y : BitVec 8) : rT (x ^^^ y) b k = rT x b k ^^^ rT y b k := by
  induction k with
  | zero => simp [rT]
  | succ k ih =>
    simp only [rT]
    rw [ih, xor4w]
    congr 1
    cases b.getLsbD k
    · simp
    · simp only [if_true]
      rw [← BitVec.shiftLeft_xor_distrib]
      rw [show (x ^^^ y).zeroExtend 16 = x.zeroExtend 16 ^^^ y.zeroExtend 16 from BitVec.setWidth_xor]

theorem rT_right (a : BitVec 8) (k : Nat) (x y : BitVec 8) : rT a (x ^^^ y) k = rT a x k ^^^ rT a y k := by
  induction k with
  | zero => simp [rT]
  | succ k ih =>
    simp only [rT]
    rw [ih, xor4w, BitVec.getLsbD_xor]
    congr 1
    cases x.getLsbD k <;> cases y.getLsbD k <;> simp

theorem rStep_lin (i : Nat) (x y : BitVec 16) : rStep (x ^^^ y) i = rStep x i ^^^ rStep y i := by
  unfold rStep
  rw [xor4w, BitVec.getLsbD_xor]
  congr 1
  cases x.getLsbD i <;> cases y.getLsbD i <;> simp

theorem rDown_lin (k : Nat) (x y : BitVec 16) : rDown (x ^^^ y) k = rDown x k ^^^ rDown y k := by
  induction k with
  | zero => rfl
  | succ k ih => simp only [rDown]; rw [ih, rStep_lin]

theorem rMul_left (b : BitVec 8) : Lin fun a => rMul a b := by
  intro x y
  simp only [rMul]
  rw [rT_left, rDown_lin]
  exact BitVec.setWidth_xor
theorem rMul_right (a : BitVec 8) : Lin fun b => rMul a b := by
  intro x y
  simp only [rMul]
  rw [rT_right, rDown_lin]
  exact BitVec.setWidth_xor

theorem rMul_eq (a b : BitVec 8) : rMul a b = mul a b := by
  refine Lin.ext (f := fun x => rMul x b) (g := fun x => mul x b) (rMul_left b) (mul_left b) (fun i => ?_) a
  refine Lin.ext (f := fun y => rMul (1#8 <<< i.val) y) (g := fun y => mul (1#8 <<< i.val) y) (rMul_right _) (mul_right _) (fun j => ?_) b
  revert i j; decide +kernel

/- the inverse, as 2 + 4 + .. + 128 -/
def invP (a : BitVec 8) : Nat → BitVec 8
  | 0 => a
  | k + 1 => mul (invP a k) (invP a k)
def invO (a : BitVec 8) : Nat → BitVec 8
  | 0 => 1#8
  | k + 1 => mul (invO a k) (invP a (k + 1))
def inv (a : BitVec 8) : BitVec 8 := invO a 7

theorem inv_one (a : BitVec 8) : mul a (inv a) = if a = 0#8 then 0#8 else 1#8 := by revert a; decide +kernel
theorem inv_inv (a : BitVec 8) : inv (inv a) = a := by
  by_cases h : a = 0#8
  · subst h; decide +kernel
  · have h1 : mul a (inv a) = 1#8 := by rw [inv_one, if_neg h]
    have h2 : inv a ≠ 0#8 := by
      intro e
      rw [e, mul_zero] at h1
      exact absurd h1 (by decide)
    have h3 : mul (inv a) (inv (inv a)) = 1#8 := by rw [inv_one, if_neg h2]
    rw [← one_mul (inv (inv a)), ← h1, mul_assoc, h3, mul_one]

/- powers -/
def pow (a : BitVec 8) : Nat → BitVec 8
  | 0 => 1#8
  | k + 1 => mul (pow a k) a
theorem pow_add (a : BitVec 8) (m n : Nat) : pow a (m + n) = mul (pow a m) (pow a n) := by
  induction n with
  | zero => exact (mul_one _).symm
  | succ n ih => show mul (pow a (m + n)) a = mul (pow a m) (mul (pow a n) a); rw [ih, mul_assoc]
theorem invP_pow (a : BitVec 8) (k : Nat) : invP a k = pow a (2 ^ k) := by
  induction k with
  | zero => exact (one_mul a).symm
  | succ k ih => show mul (invP a k) (invP a k) = _; rw [ih, ← pow_add]; congr 1; rw [Nat.pow_succ]; omega
theorem inv_pow (a : BitVec 8) : inv a = pow a 254 := by
  show mul (mul (mul (mul (mul (mul (mul 1#8 (invP a 1)) (invP a 2)) (invP a 3)) (invP a 4)) (invP a 5)) (invP a 6)) (invP a 7) = _
  rw [one_mul]
  simp only [invP_pow, ← pow_add]
theorem pow_255 (a : BitVec 8) : pow a 255 = if a = 0#8 then 0#8 else 1#8 := by
  show mul (pow a 254) a = _
  rw [← inv_pow, mul_comm, inv_one]

/- the box -/
def boxTo (b : BitVec 8) : Nat → BitVec 8
  | 0 => 99#8
  | k + 1 => boxTo b k ^^^ b.rotateLeft k
def box (a : BitVec 8) : BitVec 8 := boxTo (inv a) 5

def rBit (b : BitVec 8) (i : Nat) : BitVec 8 :=
  ((((((99#8 >>> i) ^^^ (b >>> i)) ^^^ (b >>> ((i + 4) % 8))) ^^^ (b >>> ((i + 5) % 8))) ^^^ (b >>> ((i + 6) % 8))) ^^^ (b >>> ((i + 7) % 8)))
def rBoxTo (b : BitVec 8) : Nat → BitVec 8
  | 0 => 0#8
  | k + 1 => rBoxTo b k ||| ((rBit b k &&& 1#8) <<< k)
theorem rBox_eq (b : BitVec 8) : rBoxTo b 8 = boxTo b 5 := by revert b; decide +kernel

/- the box taken back -/
def unaff (c : BitVec 8) : BitVec 8 := (c.rotateLeft 1 ^^^ c.rotateLeft 3 ^^^ c.rotateLeft 6) ^^^ 5#8
theorem unaff_aff (b : BitVec 8) : unaff (boxTo b 5) = b := by revert b; decide +kernel
theorem box_inj {a b : BitVec 8} (h : box a = box b) : a = b := by
  have h1 : inv a = inv b := by rw [← unaff_aff (inv a), ← unaff_aff (inv b)]; exact congrArg unaff h
  rw [← inv_inv a, ← inv_inv b, h1]
theorem box_ne (a : BitVec 8) : box a ≠ a ∧ box a ≠ ~~~a := by revert a; decide +kernel

end Go.Proofs.YtamemjldafoolaaGreat.Oct

/-! ## BlkMath -/
/- Plain mathematics of the field with 2^128 elements: products as sums of multiples by powers of x. No program is named here. -/
namespace Go.Proofs.YtamemjldafoolaaGreat.Oct

abbrev Pl := BitVec 128
def gR : Pl := 0xe1#128 <<< 120
/-- the product with x; the coefficient of x^i is bit 127 - i -/
def gx (p : Pl) : Pl := (p >>> 1) ^^^ (if p.getLsbD 0 then gR else 0#128)
def gxn : Nat → Pl → Pl
  | 0, p => p
  | n + 1, p => gx (gxn n p)
def e0 : Pl := 1#128 <<< 127
def sel (c : Bool) (p : Pl) : Pl := if c then p else 0#128
/-- the sum of those v i whose c i is set, i < n -/
def sm (v : Nat → Pl) (c : Nat → Bool) : Nat → Pl
  | 0 => 0#128
  | n + 1 => sm v c n ^^^ sel (c n) (v n)
def bt (p : Pl) (i : Nat) : Bool := p.getLsbD (127 - i)
def ev (c : Nat → Bool) (n : Nat) : Pl := sm (fun i => gxn i e0) c n
def gmA (a b : Pl) (n : Nat) : Pl := sm (fun i => gxn i b) (bt a) n
def gm (a b : Pl) : Pl := gmA a b 128

theorem sel_xor (c : Bool) (p q : Pl) : sel c (p ^^^ q) = sel c p ^^^ sel c q := by cases c <;> simp [sel]
theorem sel_xorB (c d : Bool) (p : Pl) : sel (c ^^ d) p = sel c p ^^^ sel d p := by cases c <;> cases d <;> simp [sel]
theorem xor4p (a b c d : Pl) : (a ^^^ b) ^^^ (c ^^^ d) = (a ^^^ c) ^^^ (b ^^^ d) := by
  rw [BitVec.xor_assoc, BitVec.xor_assoc, ← BitVec.xor_assoc b, ← BitVec.xor_assoc c, BitVec.xor_comm b c]
theorem sm_v (v u : Nat → Pl) (c : Nat → Bool) (n : Nat) : sm (fun i => v i ^^^ u i) c n = sm v c n ^^^ sm u c n := by
  induction n with
  | zero => simp [sm]
  | succ n ih => simp only [sm]; rw [ih, sel_xor, xor4p]
theorem sm_c (v : Nat → Pl) (c d : Nat → Bool) (n : Nat) : sm v (fun i => c i ^^ d i) n = sm v c n ^^^ sm v d n := by
  induction n with
  | zero => simp [sm]
  | succ n ih => simp only [sm]; rw [ih, sel_xorB, xor4p]
theorem sm_congr {v u : Nat → Pl} {c d : Nat → Bool} {n : Nat} (hv : ∀ i, i < n → v i = u i) (hc : ∀ i, i < n → c i = d i) : sm v c n = sm u d n := by
  induction n with
  | zero => rfl
  | succ n ih => simp only [sm]; rw [ih (fun i h => hv i (by omega)) (fun i h => hc i (by omega)), hv n (by omega), hc n (by omega)]

/-- linear -/
structure Li (f : Pl → Pl) : Prop where
  zero : f 0#128 = 0#128
  add : ∀ p q, f (p ^^^ q) = f p ^^^ f q
theorem Li.sel {f : Pl → Pl} (h : Li f) (c : Bool) (p : Pl) : f (sel c p) = Oct.sel c (f p) := by cases c <;> simp [Oct.sel, h.zero]
theorem Li.sm {f : Pl → Pl} (h : Li f) (v : Nat → Pl) (c : Nat → Bool) (n : Nat) : f (sm v c n) = Oct.sm (fun i => f (v i)) c n := by
  induction n with
  | zero => exact h.zero
  | succ n ih => simp only [Oct.sm]; rw [h.add, ih, h.sel]
theorem gx_li : Li gx := by
  refine ⟨by decide, fun p q => ?_⟩
  unfold gx
  rw [BitVec.ushiftRight_xor_distrib, BitVec.getLsbD_xor, xor4p]
  congr 1
  cases p.getLsbD 0 <;> cases q.getLsbD 0 <;> simp
theorem gxn_li : ∀ n, Li (gxn n) := by
  intro n
  induction n with
  | zero => exact ⟨rfl, fun _ _ => rfl⟩
  | succ n ih => exact ⟨by show gx (gxn n _) = _; rw [ih.zero, gx_li.zero], fun p q => by show gx (gxn n _) = gx (gxn n p) ^^^ gx (gxn n q); rw [ih.add, gx_li.add]⟩
theorem gxn_gx (n : Nat) (p : Pl) : gxn n (gx p) = gx (gxn n p) := by
  induction n with
  | zero => rfl
  | succ n ih => show gx (gxn n (gx p)) = gx (gx (gxn n p)); rw [ih]
theorem gxn_add (m n : Nat) (p : Pl) : gxn (m + n) p = gxn m (gxn n p) := by
  induction m with
  | zero => rw [Nat.zero_add]; rfl
  | succ m ih => rw [Nat.succ_add]; show gx (gxn (m + n) p) = gx (gxn m (gxn n p)); rw [ih]

/- coefficients -/
theorem gxn_one : ∀ i : Fin 128, gxn i.val e0 = 1#128 <<< (127 - i.val) := by decide +kernel
theorem bt_one (i : Nat) (hi : i < 128) (j : Nat) (hj : j < 128) : bt (gxn i e0) j = decide (i = j) := by
  rw [gxn_one ⟨i, hi⟩]
  unfold bt
  rw [BitVec.getLsbD_shiftLeft, BitVec.getLsbD_one]
  rw [Bool.eq_iff_iff]
  simp
  omega
theorem bt_xor (p q : Pl) (i : Nat) : bt (p ^^^ q) i = (bt p i ^^ bt q i) := by unfold bt; rw [BitVec.getLsbD_xor]
theorem bt_sel (c : Bool) (p : Pl) (i : Nat) : bt (sel c p) i = (c && bt p i) := by cases c <;> simp [sel, bt]
theorem bt_ev (c : Nat → Bool) (i : Nat) (hi : i < 128) : ∀ n, n ≤ 128 → bt (ev c n) i = (decide (i < n) && c i) := by
  intro n
  induction n with
  | zero => intro _; simp [ev, sm, bt]
  | succ n ih =>
    intro hn
    show bt (ev c n ^^^ sel (c n) (gxn n e0)) i = _
    rw [bt_xor, ih (by omega), bt_sel, bt_one n (by omega) i hi]
    by_cases h : n = i
    · subst h; simp
    · rw [decide_eq_false h, Bool.and_false, Bool.xor_false]
      congr 1
      rw [Bool.eq_iff_iff]; simp; omega
theorem bt_ext {p q : Pl} (h : ∀ i, i < 128 → bt p i = bt q i) : p = q := by
  apply BitVec.eq_of_getLsbD_eq
  intro i hi
  have := h (127 - i) (by omega)
  unfold bt at this
  rwa [show 127 - (127 - i) = i by omega] at this
theorem ev_bt (p : Pl) : ev (bt p) 128 = p := bt_ext fun i hi => by rw [bt_ev _ i hi 128 (by omega)]; simp [hi]
theorem Li.by_bt {f : Pl → Pl} (h : Li f) (p : Pl) : f p = Oct.sm (fun i => f (gxn i e0)) (bt p) 128 := by
  conv => lhs; rw [← ev_bt p]
  exact h.sm _ _ _
theorem sm_one (v : Nat → Pl) (i : Nat) : ∀ n, sm v (fun j => decide (i = j)) n = if i < n then v i else 0#128 := by
  intro n
  induction n with
  | zero => simp [sm]
  | succ n ih =>
    simp only [sm]
    rw [ih]
    by_cases h : i = n
    · subst h; simp [sel]
    · rw [decide_eq_false h]
      by_cases h2 : i < n
      · rw [if_pos h2, if_pos (by omega)]; simp [sel]
      · rw [if_neg h2, if_neg (by omega)]; simp [sel]

/- the product -/
theorem gm_right (a : Pl) : Li (gm a) :=
  ⟨by show sm _ _ _ = _; rw [sm_congr (u := fun _ => 0#128) (fun i _ => (gxn_li i).zero) (fun _ _ => rfl)]
      have : ∀ (c : Nat → Bool) n, sm (fun _ => 0#128) c n = 0#128 := fun c n => by
        induction n with
        | zero => rfl
        | succ n ih => simp only [sm]; rw [ih]; cases c n <;> rfl
      exact this _ _,
   fun p q => by show sm _ _ _ = sm _ _ _ ^^^ sm _ _ _; rw [← sm_v]; exact sm_congr (fun i _ => (gxn_li i).add p q) (fun _ _ => rfl)⟩
theorem gm_left (b : Pl) : Li (fun a => gm a b) :=
  ⟨by show sm _ _ _ = _
      have : ∀ v n, sm v (bt 0#128) n = 0#128 := fun v n => by
        induction n with
        | zero => rfl
        | succ n ih => simp only [sm]; rw [ih]; simp [sel, bt]
      exact this _ _,
   fun p q => by show sm _ _ _ = sm _ _ _ ^^^ sm _ _ _; rw [← sm_c]; exact sm_congr (fun _ _ => rfl) (fun i _ => bt_xor p q i)⟩
theorem gm_pow (i : Nat) (hi : i < 128) (b : Pl) : gm (gxn i e0) b = gxn i b := by
  show sm _ _ _ = _
  rw [sm_congr (d := fun j => decide (i = j)) (fun _ _ => rfl) (fun j hj => bt_one i hi j hj), sm_one, if_pos hi]
theorem gm_gx (a b : Pl) : gm a (gx b) = gx (gm a b) := by
  show sm _ _ _ = gx (sm _ _ _)
  rw [gx_li.sm]
  exact sm_congr (fun i _ => gxn_gx i b) (fun _ _ => rfl)
theorem gm_gxn (n : Nat) (a b : Pl) : gm a (gxn n b) = gxn n (gm a b) := by
  induction n with
  | zero => rfl
  | succ n ih => show gm a (gx (gxn n b)) = gx (gxn n (gm a b)); rw [gm_gx, ih]
theorem gm_one (a : Pl) : gm a e0 = a := ev_bt a
theorem gm_comm (a b : Pl) : gm a b = gm b a := by
  rw [(gm_right a).by_bt b]
  show _ = sm _ _ _
  exact sm_congr (fun j _ => by rw [gm_gxn, gm_one]) (fun _ _ => rfl)
theorem gm_assoc (a b c : Pl) : gm (gm a b) c = gm a (gm b c) := by
  have h : Li (fun a => gm (gm a b) c) := ⟨by show gm (gm _ b) c = _; rw [(gm_left b).zero]; exact (gm_left c).zero, fun p q => by show gm (gm (p ^^^ q) b) c = _; rw [(gm_left b).add]; exact (gm_left c).add _ _⟩
  rw [h.by_bt a]
  show _ = sm _ _ _
  refine sm_congr (fun i hi => ?_) (fun _ _ => rfl)
  show gm (gm (gxn i e0) b) c = gxn i (gm b c)
  rw [gm_pow i hi, gm_comm, gm_gxn, gm_comm c b]
theorem gm_zero (a : Pl) : gm a 0#128 = 0#128 := (gm_right a).zero

/- blocks -/
/-- bit i of a block, from the front -/
def fbit (f : Bf) (i : Nat) : Bool := (f (i / 8)).getLsbD (7 - i % 8)
def pol (f : Bf) : Pl := ev (fbit f) 128
def byt (p : Pl) : Bf := fun k => p.extractLsb' (120 - 8 * k) 8
def gmF (f g : Bf) : Bf := byt (gm (pol f) (pol g))
theorem bt_pol (f : Bf) (i : Nat) (hi : i < 128) : bt (pol f) i = fbit f i := by
  unfold pol; rw [bt_ev _ i hi 128 (by omega)]; simp [hi]
theorem byt_bit (p : Pl) (k j : Nat) (hk : k < 16) (hj : j < 8) : (byt p k).getLsbD j = bt p (8 * k + 7 - j) := by
  unfold byt bt
  rw [BitVec.getLsbD_extractLsb', decide_eq_true hj, Bool.true_and]
  congr 1; omega
theorem byt_pol (f : Bf) (k : Nat) (hk : k < 16) : byt (pol f) k = f k := by
  apply BitVec.eq_of_getLsbD_eq
  intro j hj
  rw [byt_bit _ k j hk hj, bt_pol _ _ (by omega)]
  unfold fbit
  rw [show (8 * k + 7 - j) / 8 = k by omega, show 7 - (8 * k + 7 - j) % 8 = j by omega]
theorem pol_byt (p : Pl) : pol (byt p) = p := bt_ext fun i hi => by
  rw [bt_pol _ i hi]
  unfold fbit
  rw [byt_bit p _ _ (by omega) (by omega)]
  congr 1; omega
theorem pol_congr {f g : Bf} (h : ∀ k, k < 16 → f k = g k) : pol f = pol g := bt_ext fun i hi => by
  rw [bt_pol _ i hi, bt_pol _ i hi]; unfold fbit; rw [h _ (by omega)]
theorem pol_xor (f g : Bf) : pol (xorF f g) = pol f ^^^ pol g := bt_ext fun i hi => by
  rw [bt_xor, bt_pol _ i hi, bt_pol _ i hi, bt_pol _ i hi]; unfold fbit xorF; rw [BitVec.getLsbD_xor]
theorem byt_xor (p q : Pl) : byt (p ^^^ q) = xorF (byt p) (byt q) := by
  funext k
  unfold byt xorF
  rw [BitVec.extractLsb'_xor]
theorem pol_nF : pol nF = 0#128 := bt_ext fun i hi => by rw [bt_pol _ i hi]; simp [fbit, nF, bt]
theorem pol_one : pol (fun i => if i = 0 then 0x80#8 else 0#8) = e0 := bt_ext fun i hi => by
  rw [bt_pol _ i hi]
  have : ∀ i : Fin 128, fbit (fun i => if i = 0 then 0x80#8 else 0#8) i.val = bt e0 i.val := by decide +kernel
  exact this ⟨i, hi⟩
theorem byt_zero : byt 0#128 = nF := by funext k; simp [byt, nF]
theorem gmF_comm (f g : Bf) : gmF f g = gmF g f := by unfold gmF; rw [gm_comm]
theorem gmF_assoc (f g h : Bf) : gmF (gmF f g) h = gmF f (gmF g h) := by unfold gmF; rw [pol_byt, pol_byt, gm_assoc]
theorem gmF_xor (f g h : Bf) : gmF f (xorF g h) = xorF (gmF f g) (gmF f h) := by unfold gmF; rw [pol_xor, (gm_right _).add, byt_xor]
theorem gmF_xor' (f g h : Bf) : gmF (xorF f g) h = xorF (gmF f h) (gmF g h) := by rw [gmF_comm, gmF_xor, gmF_comm h f, gmF_comm h g]
theorem gmF_one (f : Bf) (k : Nat) (hk : k < 16) : gmF f (fun i => if i = 0 then 0x80#8 else 0#8) k = f k := by unfold gmF; rw [pol_one, gm_one, byt_pol f k hk]
theorem gmF_zero (f : Bf) : gmF f nF = nF := by unfold gmF; rw [pol_nF, gm_zero, byt_zero]
theorem gmF_congr {f f' g g' : Bf} (hf : ∀ k, k < 16 → f k = f' k) (hg : ∀ k, k < 16 → g k = g' k) : gmF f g = gmF f' g' := by unfold gmF; rw [pol_congr hf, pol_congr hg]
end Go.Proofs.YtamemjldafoolaaGreat.Oct

/-! ## AesMath -/
/- Plain mathematics of AES as the program reckons it: blocks and words as functions of the index. No program is named here. -/
namespace Go.Proofs.YtamemjldafoolaaGreat.Oct

def subF (f : Bf) : Bf := fun i => box (f i)
def shiftF (f : Bf) : Bf := fun i => f ((i / 4 + i % 4) % 4 * 4 + i % 4)
def mixF (f : Bf) : Bf := fun i =>
  (mul (f i) 2#8 ^^^ mul (f (4 * (i / 4) + (i % 4 + 1) % 4)) 3#8) ^^^ (f (4 * (i / 4) + (i % 4 + 2) % 4) ^^^ f (4 * (i / 4) + (i % 4 + 3) % 4))
def rndF (s k : Bf) (last : Bool) : Bf := xorF (if last then shiftF (subF s) else mixF (shiftF (subF s))) k
def rotF (f : Bf) : Bf := fun i => f ((i + 1) % 4)

/- the key schedule: all its bytes one behind the other -/
def pwr : Nat → BitVec 8
  | 0 => 1#8
  | n + 1 => t2 (pwr n)
/-- byte j of word i, of the words ahead -/
def newW (f : Bf) (i : Nat) : Bf := fun j =>
  f (4 * (i - 8) + j) ^^^ (if i % 8 = 0 then box (f (4 * (i - 1) + (j + 1) % 4)) ^^^ (if j = 0 then pwr (i / 8 - 1) else 0#8) else if i % 8 = 4 then box (f (4 * (i - 1) + j)) else f (4 * (i - 1) + j))
def axpT (k : Bf) : Nat → Bf
  | 0 => k
  | n + 1 => fun p => if p / 4 = n + 8 then newW (axpT k n) (n + 8) (p % 4) else axpT k n p
def axpF (k : Bf) : Bf := axpT k 52

theorem expT_stay (k : Bf) (n : Nat) : ∀ d p, p / 4 < n + 8 → axpT k (n + d) p = axpT k n p := by
  intro d
  induction d with
  | zero => intro p _; rfl
  | succ d ih =>
    intro p h
    show (if p / 4 = n + d + 8 then _ else axpT k (n + d) p) = _
    rw [if_neg (by omega), ih p h]
theorem exp_key (k : Bf) (p : Nat) (h : p < 32) : axpF k p = k p := expT_stay k 0 52 p (by omega)
theorem newW_same {f g : Bf} {i j : Nat} (hi : 8 ≤ i) (hj : j < 4) (h : ∀ p, p / 4 < i → f p = g p) : newW f i j = newW g i j := by
  unfold newW
  rw [h _ (by omega), h (4 * (i - 1) + (j + 1) % 4) (by omega), h (4 * (i - 1) + j) (by omega)]
theorem exp_rec (k : Bf) (i j : Nat) (h8 : 8 ≤ i) (h60 : i < 60) (hj : j < 4) : axpF k (4 * i + j) = newW (axpF k) i j := by
  obtain ⟨n, rfl⟩ : ∃ n, i = n + 8 := ⟨i - 8, by omega⟩
  have e1 : axpF k (4 * (n + 8) + j) = axpT k (n + 1) (4 * (n + 8) + j) := by
    have := expT_stay k (n + 1) (52 - (n + 1)) (4 * (n + 8) + j) (by omega)
    rw [show n + 1 + (52 - (n + 1)) = 52 by omega] at this
    exact this
  rw [e1]
  show (if (4 * (n + 8) + j) / 4 = n + 8 then newW (axpT k n) (n + 8) ((4 * (n + 8) + j) % 4) else _) = _
  rw [if_pos (by omega), show (4 * (n + 8) + j) % 4 = j by omega]
  refine newW_same (by omega) hj fun p hp => ?_
  have := expT_stay k n (52 - n) p (by omega)
  rw [show n + (52 - n) = 52 by omega] at this
  exact this.symm

/- a block, encrypted: the state behind n rounds -/
def stF (k b : Bf) : Nat → Bf
  | 0 => xorF b (axpF k)
  | n + 1 => rndF (stF k b n) (offF (axpF k) ((n + 1) * 16)) (n == 13)
def aenF (k b : Bf) : Bf := stF k b 14
end Go.Proofs.YtamemjldafoolaaGreat.Oct

/- Plain mathematics of the field with 2^128 elements: products as sums of multiples by powers of x. No program is named here. -/
import Derived.Test.YtokhldihfbaeoaaBf
namespace Go.Proofs.Ytokhldihfbaeoaa.Oct

abbrev Pl := BitVec 128
def gR : Pl := 0xe1#128 <<< 120
/-- the product with x; the coefficient of x^i is bit 127 - i -/
def gx (p : Pl) : Pl := (p >>> 1) ^^^ (if p.getLsbD 0 then gR else 0#128)
def gxn : Nat → Pl → Pl
  | 0, p => p
  | n + 1, p => gx (gxn n p)
def e0 : Pl := 1#128 <<< 127
def sel (c : Bool) (p : Pl) : Pl := if c then p else 0#128
/-- the sum of those v i whose c i is set, i < n -/
def sm (v : Nat → Pl) (c : Nat → Bool) : Nat → Pl
  | 0 => 0#128
  | n + 1 => sm v c n ^^^ sel (c n) (v n)
def bt (p : Pl) (i : Nat) : Bool := p.getLsbD (127 - i)
def ev (c : Nat → Bool) (n : Nat) : Pl := sm (fun i => gxn i e0) c n
def gmA (a b : Pl) (n : Nat) : Pl := sm (fun i => gxn i b) (bt a) n
def gm (a b : Pl) : Pl := gmA a b 128

theorem sel_xor (c : Bool) (p q : Pl) : sel c (p ^^^ q) = sel c p ^^^ sel c q := by cases c <;> simp [sel]
theorem sel_xorB (c d : Bool) (p : Pl) : sel (c ^^ d) p = sel c p ^^^ sel d p := by cases c <;> cases d <;> simp [sel]
theorem xor4p (a b c d : Pl) : (a ^^^ b) ^^^ (c ^^^ d) = (a ^^^ c) ^^^ (b ^^^ d) := by
  rw [BitVec.xor_assoc, BitVec.xor_assoc, ← BitVec.xor_assoc b, ← BitVec.xor_assoc c, BitVec.xor_comm b c]
theorem sm_v (v u : Nat → Pl) (c : Nat → Bool) (n : Nat) : sm (fun i => v i ^^^ u i) c n = sm v c n ^^^ sm u c n := by
  induction n with
  | zero => simp [sm]
  | succ n ih => simp only [sm]; rw [ih, sel_xor, xor4p]
theorem sm_c (v : Nat → Pl) (c d : Nat → Bool) (n : Nat) : sm v (fun i => c i ^^ d i) n = sm v c n ^^^ sm v d n := by
  induction n with
  | zero => simp [sm]
  | succ n ih => simp only [sm]; rw [ih, sel_xorB, xor4p]
theorem sm_congr {v u : Nat → Pl} {c d : Nat → Bool} {n : Nat} (hv : ∀ i, i < n → v i = u i) (hc : ∀ i, i < n → c i = d i) : sm v c n = sm u d n := by
  induction n with
  | zero => rfl
  | succ n ih => simp only [sm]; rw [ih (fun i h => hv i (by omega)) (fun i h => hc i (by omega)), hv n (by omega), hc n (by omega)]

/-- linear -/
structure Li (f : Pl → Pl) : Prop where
  zero : f 0#128 = 0#128
  add : ∀ p q, f (p ^^^ q) = f p ^^^ f q
theorem Li.sel {f : Pl → Pl} (h : Li f) (c : Bool) (p : Pl) : f (sel c p) = Oct.sel c (f p) := by cases c <;> simp [Oct.sel, h.zero]
theorem Li.sm {f : Pl → Pl} (h : Li f) (v : Nat → Pl) (c : Nat → Bool) (n : Nat) : f (sm v c n) = Oct.sm (fun i => f (v i)) c n := by
  induction n with
  | zero => exact h.zero
  | succ n ih => simp only [Oct.sm]; rw [h.add, ih, h.sel]
theorem gx_li : Li gx := by
  refine ⟨by decide, fun p q => ?_⟩
  unfold gx
  rw [BitVec.ushiftRight_xor_distrib, BitVec.getLsbD_xor, xor4p]
  congr 1
  cases p.getLsbD 0 <;> cases q.getLsbD 0 <;> simp
theorem gxn_li : ∀ n, Li (gxn n) := by
  intro n
  induction n with
  | zero => exact ⟨rfl, fun _ _ => rfl⟩
  | succ n ih => exact ⟨by show gx (gxn n _) = _; rw [ih.zero, gx_li.zero], fun p q => by show gx (gxn n _) = gx (gxn n p) ^^^ gx (gxn n q); rw [ih.add, gx_li.add]⟩
theorem gxn_gx (n : Nat) (p : Pl) : gxn n (gx p) = gx (gxn n p) := by
  induction n with
  | zero => rfl
  | succ n ih => show gx (gxn n (gx p)) = gx (gx (gxn n p)); rw [ih]
theorem gxn_add (m n : Nat) (p : Pl) : gxn (m + n) p = gxn m (gxn n p) := by
  induction m with
  | zero => rw [Nat.zero_add]; rfl
  | succ m ih => rw [Nat.succ_add]; show gx (gxn (m + n) p) = gx (gxn m (gxn n p)); rw [ih]

/- coefficients -/
theorem gxn_one : ∀ i : Fin 128, gxn i.val e0 = 1#128 <<< (127 - i.val) := by decide +kernel
theorem bt_one (i : Nat) (hi : i < 128) (j : Nat) (hj : j < 128) : bt (gxn i e0) j = decide (i = j) := by
  rw [gxn_one ⟨i, hi⟩]
  unfold bt
  rw [BitVec.getLsbD_shiftLeft, BitVec.getLsbD_one]
  rw [Bool.eq_iff_iff]
  simp
  omega
theorem bt_xor (p q : Pl) (i : Nat) : bt (p ^^^ q) i = (bt p i ^^ bt q i) := by unfold bt; rw [BitVec.getLsbD_xor]
theorem bt_sel (c : Bool) (p : Pl) (i : Nat) : bt (sel c p) i = (c && bt p i) := by cases c <;> simp [sel, bt]
theorem bt_ev (c : Nat → Bool) (i : Nat) (hi : i < 128) : ∀ n, n ≤ 128 → bt (ev c n) i = (decide (i < n) && c i) := by
  intro n
  induction n with
  | zero => intro _; simp [ev, sm, bt]
  | succ n ih =>
    intro hn
    show bt (ev c n ^^^ sel (c n) (gxn n e0)) i = _
    rw [bt_xor, ih (by omega), bt_sel, bt_one n (by omega) i hi]
    by_cases h : n = i
    · subst h; simp
    · rw [decide_eq_false h, Bool.and_false, Bool.xor_false]
      congr 1
      rw [Bool.eq_iff_iff]; simp; omega
theorem bt_ext {p q : Pl} (h : ∀ i, i < 128 → bt p i = bt q i) : p = q := by
  apply BitVec.eq_of_getLsbD_eq
  intro i hi
  have := h (127 - i) (by omega)
  unfold bt at this
  rwa [show 127 - (127 - i) = i by omega] at this
theorem ev_bt (p : Pl) : ev (bt p) 128 = p := bt_ext fun i hi => by rw [bt_ev _ i hi 128 (by omega)]; simp [hi]
theorem Li.by_bt {f : Pl → Pl} (h : Li f) (p : Pl) : f p = Oct.sm (fun i => f (gxn i e0)) (bt p) 128 := by
  conv => lhs; rw [← ev_bt p]
  exact h.sm _ _ _
theorem sm_one (v : Nat → Pl) (i : Nat) : ∀ n, sm v (fun j => decide (i = j)) n = if i < n then v i else 0#128 := by
  intro n
  induction n with
  | zero => simp [sm]
  | succ n ih =>
    simp only [sm]
    rw [ih]
    by_cases h : i = n
    · subst h; simp [sel]
    · rw [decide_eq_false h]
      by_cases h2 : i < n
      · rw [if_pos h2, if_pos (by omega)]; simp [sel]
      · rw [if_neg h2, if_neg (by omega)]; simp [sel]

/- the product -/
theorem gm_right (a : Pl) : Li (gm a) :=
  ⟨by show sm _ _ _ = _; rw [sm_congr (u := fun _ => 0#128) (fun i _ => (gxn_li i).zero) (fun _ _ => rfl)]
      have : ∀ (c : Nat → Bool) n, sm (fun _ => 0#128) c n = 0#128 := fun c n => by
        induction n with
        | zero => rfl
        | succ n ih => simp only [sm]; rw [ih]; cases c n <;> rfl
      exact this _ _,
   fun p q => by show sm _ _ _ = sm _ _ _ ^^^ sm _ _ _; rw [← sm_v]; exact sm_congr (fun i _ => (gxn_li i).add p q) (fun _ _ => rfl)⟩
theorem gm_left (b : Pl) : Li (fun a => gm a b) :=
  ⟨by show sm _ _ _ = _
      have : ∀ v n, sm v (bt 0#128) n = 0#128 := fun v n => by
        induction n with
        | zero => rfl
        | succ n ih => simp only [sm]; rw [ih]; simp [sel, bt]
      exact this _ _,
   fun p q => by show sm _ _ _ = sm _ _ _ ^^^ sm _ _ _; rw [← sm_c]; exact sm_congr (fun _ _ => rfl) (fun i _ => bt_xor p q i)⟩
theorem gm_pow (i : Nat) (hi : i < 128) (b : Pl) : gm (gxn i e0) b = gxn i b := by
  show sm _ _ _ = _
  rw [sm_congr (d := fun j => decide (i = j)) (fun _ _ => rfl) (fun j hj => bt_one i hi j hj), sm_one, if_pos hi]
theorem gm_gx (a b : Pl) : gm a (gx b) = gx (gm a b) := by
  show sm _ _ _ = gx (sm _ _ _)
  rw [gx_li.sm]
  exact sm_congr (fun i _ => gxn_gx i b) (fun _ _ => rfl)
theorem gm_gxn (n : Nat) (a b : Pl) : gm a (gxn n b) = gxn n (gm a b) := by
  induction n with
  | zero => rfl
  | succ n ih => show gm a (gx (gxn n b)) = gx (gxn n (gm a b)); rw [gm_gx, ih]
theorem gm_one (a : Pl) : gm a e0 = a := ev_bt a
theorem gm_comm (a b : Pl) : gm a b = gm b a := by
  rw [(gm_right a).by_bt b]
  show _ = sm _ _ _
  exact sm_congr (fun j _ => by rw [gm_gxn, gm_one]) (fun _ _ => rfl)
theorem gm_assoc (a b c : Pl) : gm (gm a b) c = gm a (gm b c) := by
  have h : Li (fun a => gm (gm a b) c) := ⟨by show gm (gm _ b) c = _; rw [(gm_left b).zero]; exact (gm_left c).zero, fun p q => by show gm (gm (p ^^^ q) b) c = _; rw [(gm_left b).add]; exact (gm_left c).add _ _⟩
  rw [h.by_bt a]
  show _ = sm _ _ _
  refine sm_congr (fun i hi => ?_) (fun _ _ => rfl)
  show gm (gm (gxn i e0) b) c = gxn i (gm b c)
  rw [gm_pow i hi, gm_comm, gm_gxn, gm_comm c b]
theorem gm_zero (a : Pl) : gm a 0#128 = 0#128 := (gm_right a).zero

/- blocks -/
/-- bit i of a block, from the front -/
def fbit (f : Bf) (i : Nat) : Bool := (f (i / 8)).getLsbD (7 - i % 8)
def pol (f : Bf) : Pl := ev (fbit f) 128
def byt (p : Pl) : Bf := fun k => p.extractLsb' (120 - 8 * k) 8
def gmF (f g : Bf) : Bf := byt (gm (pol f) (pol g))
theorem bt_pol (f : Bf) (i : Nat) (hi : i < 128) : bt (pol f) i = fbit f i := by
  unfold pol; rw [bt_ev _ i hi 128 (by omega)]; simp [hi]
theorem byt_bit (p : Pl) (k j : Nat) (hk : k < 16) (hj : j < 8) : (byt p k).getLsbD j = bt p (8 * k + 7 - j) := by
  unfold byt bt
  rw [BitVec.getLsbD_extractLsb', decide_eq_true hj, Bool.true_and]
  congr 1; omega
theorem byt_pol (f : Bf) (k : Nat) (hk : k < 16) : byt (pol f) k = f k := by
  apply BitVec.eq_of_getLsbD_eq
  intro j hj
  rw [byt_bit _ k j hk hj, bt_pol _ _ (by omega)]
  unfold fbit
  rw [show (8 * k + 7 - j) / 8 = k by omega, show 7 - (8 * k + 7 - j) % 8 = j by omega]
theorem pol_byt (p : Pl) : pol (byt p) = p := bt_ext fun i hi => by
  rw [bt_pol _ i hi]
  unfold fbit
  rw [byt_bit p _ _ (by omega) (by omega)]
  congr 1; omega
theorem pol_congr {f g : Bf} (h : ∀ k, k < 16 → f k = g k) : pol f = pol g := bt_ext fun i hi => by
  rw [bt_pol _ i hi, bt_pol _ i hi]; unfold fbit; rw [h _ (by omega)]
theorem pol_xor (f g : Bf) : pol (xorF f g) = pol f ^^^ pol g := bt_ext fun i hi => by
  rw [bt_xor, bt_pol _ i hi, bt_pol _ i hi, bt_pol _ i hi]; unfold fbit xorF; rw [BitVec.getLsbD_xor]
theorem byt_xor (p q : Pl) : byt (p ^^^ q) = xorF (byt p) (byt q) := by
  funext k
  unfold byt xorF
  rw [BitVec.extractLsb'_xor]
theorem pol_nF : pol nF = 0#128 := bt_ext fun i hi => by rw [bt_pol _ i hi]; simp [fbit, nF, bt]
theorem pol_one : pol (fun i => if i = 0 then 0x80#8 else 0#8) = e0 := bt_ext fun i hi => by
  rw [bt_pol _ i hi]
  have : ∀ i : Fin 128, fbit (fun i => if i = 0 then 0x80#8 else 0#8) i.val = bt e0 i.val := by decide +kernel
  exact this ⟨i, hi⟩
theorem byt_zero : byt 0#128 = nF := by funext k; simp [byt, nF]
theorem gmF_comm (f g : Bf) : gmF f g = gmF g f := by unfold gmF; rw [gm_comm]
theorem gmF_assoc (f g h : Bf) : gmF (gmF f g) h = gmF f (gmF g h) := by unfold gmF; rw [pol_byt, pol_byt, gm_assoc]
theorem gmF_xor (f g h : Bf) : gmF f (xorF g h) = xorF (gmF f g) (gmF f h) := by unfold gmF; rw [pol_xor, (gm_right _).add, byt_xor]
theorem gmF_xor' (f g h : Bf) : gmF (xorF f g) h = xorF (gmF f h) (gmF g h) := by rw [gmF_comm, gmF_xor, gmF_comm h f, gmF_comm h g]
theorem gmF_one (f : Bf) (k : Nat) (hk : k < 16) : gmF f (fun i => if i = 0 then 0x80#8 else 0#8) k = f k := by unfold gmF; rw [pol_one, gm_one, byt_pol f k hk]
theorem gmF_zero (f : Bf) : gmF f nF = nF := by unfold gmF; rw [pol_nF, gm_zero, byt_zero]
theorem gmF_congr {f f' g g' : Bf} (hf : ∀ k, k < 16 → f k = f' k) (hg : ∀ k, k < 16 → g k = g' k) : gmF f g = gmF f' g' := by unfold gmF; rw [pol_congr hf, pol_congr hg]
end Go.Proofs.Ytokhldihfbaeoaa.Oct

/- AES on the document's example, by tables that the kernel checks step by step. No program is named here. -/
import Derived.Test.YtamemjldafoolaaGreatAlg
namespace Go.Proofs.YtamemjldafoolaaGreat.Oct

/-- byte p of a number -/
def tb (t p : Nat) : BitVec 8 := BitVec.ofNat 8 (t >>> (8 * p))
def boxN : Nat := 0x16bb54b00f2d99416842e6bf0d89a18cdf2855cee9871e9b948ed9691198f8e19e1dc186b95735610ef6034866b53e708a8bbd4b1f74dde8c6b4a61c2e2578ba08ae7a65eaf4566ca94ed58d6d37c8e779e4959162acd3c25c2406490a3a32e0db0b5ede14b8ee4688902a22dc4f816073195d643d7ea7c41744975fec130ccdd2f3ff1021dab6bcf5389d928f40a351a89f3c507f02f94585334d43fbaaefd0cf584c4a39becb6a5bb1fc20ed00d153842fe329b3d63b52a05a6e1b1a2c830975b227ebe28012079a059618c323c7041531d871f1e5a534ccf73f362693fdb7c072a49cafa2d4adf04759fa7dc982ca76abd7fe2b670130c56f6bf27b777c63
theorem box_tb : ∀ a : BitVec 8, box a = tb boxN a.toNat := by decide +kernel
def keyN : Nat := 0x36de686d3cc21a37e97909bfcc79fc24eacdf8cdaa2b577ee04ff2a999665a4e0a1c725ad5bb13882500f59b71fe412540e6afb34a64a5d77929a8e7fefa1af0dfa761d2f0bbe61354feb4be1cf7cf7c0a820a64334d0d3087d3b21760a6f5452f1c87c1a44552ad48097bc25f90dc0b39cf0754b49ebf27e7754752753ae23d8b59d56cec4c296f1799a7c97f8256c68d51b87353ebf875924fa56f48f1e16d6715fc03fbd58ea6681bf10ff0df87aedeba4006c1a45d1adabe4402cda851169cc072a593ce7fa998c476a19fc273a51f1e1d1c1b1a191817161514131211100f0e0d0c0b0a09080706050403020100
def stN : Nat → Nat
  | 0 => 0xf0e0d0c0b0a090807060504030201000
  | 1 => 0x05e7a4013221a7ef85aae0430676634f
  | 2 => 0x09612fc4ad8aed78a0001c8ac2fb5918
  | 3 => 0x630fe18edf283aa9a83f9fcbc1665c97
  | 4 => 0x54157004c1c521f94fe017a471f2051c
  | 5 => 0xfa99dca828bdc7a2b0b7451be1aa57c3
  | 6 => 0x4cd575835d810cc13e244ecb4341077f
  | 7 => 0x7d5e6cb95dabca5a0fbca06c69a453d6
  | 8 => 0xc5b9f36888a3e1057d8dd25f3958a85a
  | 9 => 0xc9e8f32a0ce53d64477e7ec55148824a
  | 10 => 0xecb5523b31aae970a03a3bcaf60749c1
  | 11 => 0x53766766a79f4050aa34c6babf6a9c5f
  | 12 => 0x21259201e486fb140395534395046651
  | 13 => 0xa56df523f4ec45c9aa5a9d99b9ce7b62
  | 14 => 0x8960494b9049fceabf456751cab7a28e
  | _ => 0
def exK : Bf := fun i => BitVec.ofNat 8 i
def exB : Bf := fun i => BitVec.ofNat 8 (17 * i)

def subT (f : Bf) : Bf := fun i => tb boxN (f i).toNat
theorem subF_tb (f : Bf) : subF f = subT f := by funext i; exact box_tb (f i)
def newT (f : Bf) (i : Nat) : Bf := fun j =>
  f (4 * (i - 8) + j) ^^^ (if i % 8 = 0 then tb boxN (f (4 * (i - 1) + (j + 1) % 4)).toNat ^^^ (if j = 0 then pwr (i / 8 - 1) else 0#8) else if i % 8 = 4 then tb boxN (f (4 * (i - 1) + j)).toNat else f (4 * (i - 1) + j))
theorem newW_tb (f : Bf) (i j : Nat) : newW f i j = newT f i j := by unfold newW newT; rw [box_tb, box_tb]
theorem key_chk : ∀ i : Fin 52, ∀ j : Fin 4, tb keyN (4 * (i.val + 8) + j.val) = newT (tb keyN) (i.val + 8) j.val := by decide +kernel
theorem key_low : ∀ p : Fin 32, exK p.val = tb keyN p.val := by decide +kernel
theorem ex_key : ∀ (n : Nat), n ≤ 60 → ∀ p, p / 4 < n → axpF exK p = tb keyN p := by
  intro n
  induction n with
  | zero => intro _ p h; omega
  | succ n ih =>
    intro hn p hp
    by_cases h : p / 4 < n
    · exact ih (by omega) p h
    · by_cases h8 : n < 8
      · rw [exp_key exK p (by omega)]; exact key_low ⟨p, by omega⟩
      · have hp' : p = 4 * n + p % 4 := by omega
        have e := exp_rec exK n (p % 4) (by omega) (by omega) (by omega)
        have c := key_chk ⟨n - 8, by omega⟩ ⟨p % 4, by omega⟩
        simp only [show n - 8 + 8 = n by omega] at c
        rw [hp', e, newW_same (by omega) (by omega) (fun q hq => ih (by omega) q hq), newW_tb, c]

theorem rndF_same {s s' k k' : Bf} {last : Bool} (hs : ∀ i, i < 16 → s i = s' i) (hk : ∀ i, i < 16 → k i = k' i) : ∀ i, i < 16 → rndF s k last i = rndF s' k' last i := by
  intro i hi
  have h1 : ∀ j, j < 16 → shiftF (subF s) j = shiftF (subF s') j := fun j hj => by unfold shiftF subF; rw [hs _ (by omega)]
  unfold rndF xorF
  rw [hk i hi]
  congr 1
  cases last
  · simp only [Bool.false_eq_true, if_false]
    unfold mixF
    rw [h1 i hi, h1 (4 * (i / 4) + (i % 4 + 1) % 4) (by omega), h1 (4 * (i / 4) + (i % 4 + 2) % 4) (by omega), h1 (4 * (i / 4) + (i % 4 + 3) % 4) (by omega)]
  · simp only [if_true]
    exact h1 i hi
def rndT (s k : Bf) (last : Bool) : Bf := xorF (if last then shiftF (subT s) else mixF (shiftF (subT s))) k
theorem rnd_tb (s k : Bf) (last : Bool) : rndF s k last = rndT s k last := by unfold rndF rndT; rw [subF_tb]
theorem st_chk : ∀ n : Fin 14, ∀ p : Fin 16, rndT (tb (stN n.val)) (offF (tb keyN) ((n.val + 1) * 16)) (n.val == 13) p.val = tb (stN (n.val + 1)) p.val := by decide +kernel
theorem st_low : ∀ p : Fin 16, xorF exB (tb keyN) p.val = tb (stN 0) p.val := by decide +kernel
theorem ex_st : ∀ (n : Nat), n ≤ 14 → ∀ p, p < 16 → stF exK exB n p = tb (stN n) p := by
  intro n
  induction n with
  | zero =>
    intro _ p hp
    show exB p ^^^ axpF exK p = _
    rw [ex_key 60 (by omega) p (by omega)]
    exact st_low ⟨p, hp⟩
  | succ n ih =>
    intro hn p hp
    show rndF (stF exK exB n) (offF (axpF exK) ((n + 1) * 16)) (n == 13) p = _
    rw [rndF_same (ih (by omega)) (fun i hi => by unfold offF; exact ex_key 60 (by omega) _ (by omega)) p hp, rnd_tb]
    exact st_chk ⟨n, by omega⟩ ⟨p, hp⟩
theorem ex_enc (p : Nat) (hp : p < 16) : aenF exK exB p = tb (stN 14) p := ex_st 14 (by omega) p hp
end Go.Proofs.YtamemjldafoolaaGreat.Oct

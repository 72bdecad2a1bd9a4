import Derived.Test.YteffjpdcghlnlaaGreatDoorZcShaR
import Derived.Test.YteffjpdcghlnlaaGreatDoorZcLib
set_option linter.unusedVariables false
set_option linter.unusedSimpArgs false
namespace Go.Proofs.YteffjpdcghlnlaaGreatDoor.Oct
open Go.RowKit
def keyF (k : Bf) (n : Nat) : Bf := fun i => if 64 < n then (if i < 32 then shaF kF iF k n i else 0#8) else if i < n then k i else 0#8
def mskF (f : Bf) (v : BitVec 8) : Bf := fun i => f i ^^^ v
def innF (k : Bf) (n : Nat) (b : Bf) (m : Nat) : Bf := shaF kF iF (catF 64 (mskF (keyF k n) 54#8) b) (64 + m)
def macF (k : Bf) (n : Nat) (b : Bf) (m : Nat) : Bf := shaF kF iF (catF 64 (mskF (keyF k n) 92#8) (innF k n b m)) 96
abbrev St := Bf × Bf
def mixT (s : St) (r : BitVec 8) (b : Bf) : Bf := catF (32 + 1) (catF 32 s.2 fun _ => r) b
def mixS (s : St) (r : BitVec 8) (b : Bf) (n : Nat) : St := (macF s.1 32 (mixT s r b) (32 + 1 + n), macF (macF s.1 32 (mixT s r b) (32 + 1 + n)) 32 s.2 32)
def updS (s : St) (b : Bf) (n : Nat) : St := if n = 0 then mixS s 0#8 b n else mixS (mixS s 0#8 b n) 1#8 b n
def vsF (s : St) : Nat → Bf
 | 0 => s.2
 | i + 1 => macF s.1 32 (vsF s i) 32
def drF (s : St) : Bf := fun j => vsF s (j / 32 + 1) (j % 32)
def nV (n : Nat) : Nat := (n + 31) / 32
def drwS (s : St) (n : Nat) (b : Bf) (m : Nat) : St :=
 updS ((if m = 0 then s else updS s b m).1, vsF (if m = 0 then s else updS s b m) (nV n)) b m
def drwF (s : St) (b : Bf) (m : Nat) : Bf := drF (if m = 0 then s else updS s b m)
def newS : St := (fun _ => 0#8, fun _ => 1#8)
end Go.Proofs.YteffjpdcghlnlaaGreatDoor.Oct

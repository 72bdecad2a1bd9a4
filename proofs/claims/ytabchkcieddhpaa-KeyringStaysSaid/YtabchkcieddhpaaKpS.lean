/- Contract of the law's shown: the chapter's examples. -/
import Derived.Test.YtabchkcieddhpaaKpL
namespace Go.Proofs.Ytabchkcieddhpaa.Oct
open Go.ChangeShapes Go.WideShapes Go.ChangeAt Go.RowKit
set_option linter.unusedVariables false

/-- a block of the law's own, that no keyring's call writes -/
structure Kept (T : Mk) (w : World) (X : Nat) (c : Array Value) : Prop where
  tg : T X = 0
  row : Oct.row w X = some c
section
variable {T T' : Mk} {t X : Nat} {w w' : World} {c : Array Value}
theorem Kept.step (h : Kept T w X c) (f : Fk T T' t w w') (ht : 1 ≤ t) : Kept T' w' X c :=
  ⟨by rw [f.fr.tag X (row_lt h.row)]; exact h.tg, f.fr.rowAt h.row (by rw [h.tg]; exact fun e => by have := e.1; omega)⟩
theorem Kept.new (h : Kept T w X c) (hb : Below w.heap.size w w') : Kept (paint T w.heap.size 0) w' X c := ⟨by rw [paint_old (row_lt h.row)]; exact h.tg, carry hb h.row⟩
theorem Kept.made (hX : X = w.heap.size) (hr : Oct.row w' X = some c) : Kept (paint T w.heap.size 0) w' X c := ⟨paint_new (by omega), hr⟩
theorem KpAt.new {B : Nat} {K : Ks} (h : KpAt T w t B K) (hb : Below w.heap.size w w') : KpAt (paint T w.heap.size 0) w' t B K := h.fr (Fr.new (H := fun _ => False) hb 0) (fun _ _ e => e)
end
def fA : Bf := upd (fun _ => 0#8) 0 1#8
def fB : Bf := upd (fun _ => 0#8) 0 2#8
@[go_sem] theorem fA_lit : (ba 32 fun _ => 0#8).setIfInBounds 0 (.int .u8 1) = ba 32 fA := ba_set 32 (fun _ => 0#8) 0 1#8
@[go_sem] theorem fB_lit : (ba 32 fun _ => 0#8).setIfInBounds 0 (.int .u8 2) = ba 32 fB := ba_set 32 (fun _ => 0#8) 0 2#8
def kS (off : Bool) (l : List Ve) : Ks := [⟨off, l⟩]
/-- where the law stands -/
structure ShI (w wr : World) (T : Mk) (B : Nat) (K : Ks) (X Y : Nat) : Prop where
  p : KpAt T wr 10 B K
  old : ∀ k, k < w.heap.size → T k = 0
  bel : Below w.heap.size w wr
  a : Kept T wr X (ba 32 fA)
  b : Kept T wr Y (ba 32 fB)
section
variable {w wr w2 : World} {T T' : Mk} {B X Y : Nat} {K K' : Ks}
theorem ShI.step (h : ShI w wr T B K X Y) (hp : KpAt T' w2 10 B K') (f : Fk T T' 10 wr w2) : ShI w w2 T' B K' X Y :=
  ⟨hp, fun k hk => by rw [f.fr.tag k (Nat.lt_of_lt_of_le hk h.bel.size)]; exact h.old k hk, h.bel.trans (f.fr.below h.bel.size fun k hk e => by rw [h.old k hk] at e; have := e.1; omega), h.a.step f (by decide), h.b.step f (by decide)⟩
theorem ShI.new (h : ShI w wr T B K X Y) (hb : Below wr.heap.size wr w2) : ShI w w2 (paint T wr.heap.size 0) B K X Y :=
  ⟨h.p.new hb, fun k hk => by rw [paint_old (Nat.lt_of_lt_of_le hk h.bel.size)]; exact h.old k hk, onto h.bel h.bel.size hb, h.a.new hb, h.b.new hb⟩
end
theorem keyAlloc (w : World) (f : Bf) : ∃ w', w' = w.alloc (.cells (ba 32 f) 32) ∧ Below w.heap.size w w' ∧ row w' w.heap.size = some (ba 32 f) := ⟨_, rfl, (Below.refl _ _).alloc (Nat.le_refl _) _, row_alloc_at _ _ _ _ rfl⟩
set_option maxRecDepth 20000 in
set_option maxHeartbeats 8000000 in
theorem shown_any (w : World) : Calls Try.prog 8 #[] w fun e w' => e = .returned (.bool true) ∧ Below w.heap.size w w' := by
  go_enter Try.func8, Try.ntmps8
  go_wp2_with fail
  refine (pnew_any (fun _ => 0) 10 w).mono ?_
  rintro e w1 ⟨B, T1, rfl, hp1, hn1⟩
  obtain ⟨w2, hw2, b2, r2⟩ := keyAlloc w1 fA
  obtain ⟨w3, hw3, b3, r3⟩ := keyAlloc w2 fB
  obtain ⟨X, hX⟩ : ∃ X, X = w1.heap.size := ⟨_, rfl⟩
  obtain ⟨Y, hY⟩ : ∃ Y, Y = w2.heap.size := ⟨_, rfl⟩
  rw [← hX] at r2
  rw [← hY] at r3
  have s2 : w2.heap.size = w1.heap.size + 1 := by rw [hw2]; simp
  have S3 := Lib.hid (show ShI w w3 (paint (paint T1 w1.heap.size 0) w2.heap.size 0) B [] X Y from
    ⟨(hp1.new b2).new b3, fun k hk => by rw [paint_old (by have := hn1.below.size; omega), paint_old (by have := hn1.below.size; omega)]; exact hn1.tag k hk,
     onto (onto hn1.below hn1.below.size b2) (by have := hn1.below.size; omega) b3, (Kept.made hX r2).new b3, Kept.made hY r3⟩)
  have hq : row w3 X = some (ba 32 fA) := carry b3 r2
  have HW := Lib.hid (And.intro hw2 hw3)
  rw [hw3, hw2] at hq
  rw [hw2] at hY
  clear hp1 hn1 b2 b3 r2 r3 hw2 hw3 s2
  go_wp2_with fail
  -- the calls
  obtain ⟨h2, h3⟩ := HW.out
  rw [← h2, ← h3, ← (show Y = w1.heap.size + 1 by rw [hY]; simp), ← hX]
  clear hq h2 h3 HW hY hX
  refine (pcr_any _ 10 B [] fA w3 S3.out.p).mono ?_
  rintro e w4 ⟨rfl, T4, p4, f4⟩
  rw [show crN [] = 1 from rfl]
  rw [show crE [] = 0 from rfl]
  have S4 := Lib.hid (show ShI w w4 T4 B (kS false [⟨fA, 0, false⟩]) X Y from S3.out.step p4 f4)
  clear p4 f4 S3 
  go_wp2_with fail
  refine (pus_any _ 10 B _ 1 w4 S4.out.p).mono ?_
  rintro e w5 ⟨rfl, T5, p5, f5⟩
  rw [show usV (kS false [⟨fA, 0, false⟩]) 1 = 1 from rfl]
  rw [show usC (kS false [⟨fA, 0, false⟩]) 1 = 0 from rfl]
  rw [show usM (kS false [⟨fA, 0, false⟩]) 1 = fA from rfl]
  rw [show usE (kS false [⟨fA, 0, false⟩]) 1 = 0 from rfl]
  have S5 := Lib.hid (show ShI w w5 T5 B (kS false [⟨fA, 1, false⟩]) X Y from S4.out.step p5 f5)
  clear p5 f5 S4 
  obtain ⟨w6, hw6, b6, r6⟩ := keyAlloc w5 fA
  obtain ⟨Z6, hZ6⟩ : ∃ Z, Z = w5.heap.size := ⟨_, rfl⟩
  have S6 := Lib.hid (S5.out.new b6)
  have HW6 := Lib.hid hw6
  have HZ6 := Lib.hid hZ6
  clear hw6 b6 r6 hZ6 S5 
  go_wp2_with fail
  rw [← HW6.out, ← HZ6.out]
  refine (pus_any _ 10 B _ 1 w6 S6.out.p).mono ?_
  rintro e w7 ⟨rfl, T7, p7, f7⟩
  rw [show usV (kS false [⟨fA, 1, false⟩]) 1 = 1 from rfl]
  rw [show usC (kS false [⟨fA, 1, false⟩]) 1 = 1 from rfl]
  rw [show usM (kS false [⟨fA, 1, false⟩]) 1 = fA from rfl]
  rw [show usE (kS false [⟨fA, 1, false⟩]) 1 = 0 from rfl]
  have S7 := Lib.hid (show ShI w w7 T7 B (kS false [⟨fA, 2, false⟩]) X Y from S6.out.step p7 f7)
  clear p7 f7 S6 
  obtain ⟨w8, hw8, b8, r8⟩ := keyAlloc w7 fA
  obtain ⟨Z8, hZ8⟩ : ∃ Z, Z = w7.heap.size := ⟨_, rfl⟩
  have S8 := Lib.hid (S7.out.new b8)
  have KA_8 := Lib.hid (Kept.made (T := T7) hZ8 (by rw [hZ8]; exact r8))
  have HW8 := Lib.hid hw8
  have HZ8 := Lib.hid hZ8
  have q0 := S8.out.b.row
  rw [hw8] at q0
  clear hw8 b8 r8 hZ8 S7 
  go_wp2_with fail
  rw [← HW8.out, ← HZ8.out]
  clear q0
  refine (prt_any _ 10 B _ 1 fB w8 S8.out.p).mono ?_
  rintro e w9 ⟨rfl, T9, p9, f9⟩
  rw [show rtN (kS false [⟨fA, 2, false⟩]) 1 = 2 from rfl]
  rw [show rtE (kS false [⟨fA, 2, false⟩]) 1 = 0 from rfl]
  have S9 := Lib.hid (show ShI w w9 T9 B (kS false [⟨fA, 2, false⟩, ⟨fB, 0, false⟩]) X Y from S8.out.step p9 f9)
  have KA_9 := Lib.hid (KA_8.out.step f9 (by decide))
  clear p9 f9 S8 KA_8
  go_wp2_with fail
  refine (pus_any _ 10 B _ 1 w9 S9.out.p).mono ?_
  rintro e w10 ⟨rfl, T10, p10, f10⟩
  rw [show usV (kS false [⟨fA, 2, false⟩, ⟨fB, 0, false⟩]) 1 = 2 from rfl]
  rw [show usC (kS false [⟨fA, 2, false⟩, ⟨fB, 0, false⟩]) 1 = 0 from rfl]
  rw [show usM (kS false [⟨fA, 2, false⟩, ⟨fB, 0, false⟩]) 1 = fB from rfl]
  rw [show usE (kS false [⟨fA, 2, false⟩, ⟨fB, 0, false⟩]) 1 = 0 from rfl]
  have S10 := Lib.hid (show ShI w w10 T10 B (kS false [⟨fA, 2, false⟩, ⟨fB, 1, false⟩]) X Y from S9.out.step p10 f10)
  have KA_10 := Lib.hid (KA_9.out.step f10 (by decide))
  clear p10 f10 S9 KA_9
  obtain ⟨w11, hw11, b11, r11⟩ := keyAlloc w10 fB
  obtain ⟨Z11, hZ11⟩ : ∃ Z, Z = w10.heap.size := ⟨_, rfl⟩
  have S11 := Lib.hid (S10.out.new b11)
  have KA_11 := Lib.hid (KA_10.out.new b11)
  have KB_11 := Lib.hid (Kept.made (T := T10) hZ11 (by rw [hZ11]; exact r11))
  have HW11 := Lib.hid hw11
  have HZ11 := Lib.hid hZ11
  clear hw11 b11 r11 hZ11 S10 KA_10
  go_wp2_with fail
  rw [← HW11.out, ← HZ11.out]
  refine (pds_any _ 10 B _ 1 1 w11 S11.out.p).mono ?_
  rintro e w12 ⟨rfl, T12, p12, f12⟩
  rw [show dsE (kS false [⟨fA, 2, false⟩, ⟨fB, 1, false⟩]) 1 1 = 0 from rfl]
  have S12 := Lib.hid (show ShI w w12 T12 B (kS false [⟨fun _ => 0#8, 2, true⟩, ⟨fB, 1, false⟩]) X Y from S11.out.step p12 f12)
  have KA_12 := Lib.hid (KA_11.out.step f12 (by decide))
  have KB_12 := Lib.hid (KB_11.out.step f12 (by decide))
  clear p12 f12 S11 KA_11 KB_11
  go_wp2_with fail
  refine (pmt_any _ 10 B _ 1 1 w12 S12.out.p).mono ?_
  rintro e w13 ⟨rfl, b13⟩
  rw [show mtM (kS false [⟨fun _ => 0#8, 2, true⟩, ⟨fB, 1, false⟩]) 1 1 = fun _ => 0#8 from rfl]
  rw [show mtE (kS false [⟨fun _ => 0#8, 2, true⟩, ⟨fB, 1, false⟩]) 1 1 = 132 from rfl]
  have S13 := Lib.hid (S12.out.new b13)
  have KA_13 := Lib.hid (KA_12.out.new b13)
  have KB_13 := Lib.hid (KB_12.out.new b13)
  clear b13 S12 KA_12 KB_12
  obtain ⟨w14, hw14, b14, r14⟩ := keyAlloc w13 (fun _ => 0#8)
  obtain ⟨Z14, hZ14⟩ : ∃ Z, Z = w13.heap.size := ⟨_, rfl⟩
  have S14 := Lib.hid (S13.out.new b14)
  have KA_14 := Lib.hid (KA_13.out.new b14)
  have KB_14 := Lib.hid (KB_13.out.new b14)
  have HW14 := Lib.hid hw14
  have HZ14 := Lib.hid hZ14
  clear hw14 b14 r14 hZ14 S13 KA_13 KB_13
  go_wp2_with fail
  rw [← HW14.out, ← HZ14.out]
  refine (pmt_any _ 10 B _ 1 2 w14 S14.out.p).mono ?_
  rintro e w15 ⟨rfl, b15⟩
  rw [show mtM (kS false [⟨fun _ => 0#8, 2, true⟩, ⟨fB, 1, false⟩]) 1 2 = fB from rfl]
  rw [show mtE (kS false [⟨fun _ => 0#8, 2, true⟩, ⟨fB, 1, false⟩]) 1 2 = 0 from rfl]
  have S15 := Lib.hid (S14.out.new b15)
  have KA_15 := Lib.hid (KA_14.out.new b15)
  have KB_15 := Lib.hid (KB_14.out.new b15)
  clear b15 S14 KA_14 KB_14
  obtain ⟨w16, hw16, b16, r16⟩ := keyAlloc w15 fB
  obtain ⟨Z16, hZ16⟩ : ∃ Z, Z = w15.heap.size := ⟨_, rfl⟩
  have S16 := Lib.hid (S15.out.new b16)
  have KA_16 := Lib.hid (KA_15.out.new b16)
  have KB_16 := Lib.hid (KB_15.out.new b16)
  have KC_16 := Lib.hid (Kept.made (T := (paint (paint (paint T12 w12.heap.size 0) w13.heap.size 0) w14.heap.size 0)) hZ16 (by rw [hZ16]; exact r16))
  have HW16 := Lib.hid hw16
  have HZ16 := Lib.hid hZ16
  clear hw16 b16 r16 hZ16 S15 KA_15 KB_15
  go_wp2_with fail
  rw [← HW16.out, ← HZ16.out]
  refine (psw_any _ 10 B _ 1 false w16 S16.out.p).mono ?_
  rintro e w17 ⟨rfl, T17, p17, f17⟩
  rw [show swE (kS false [⟨fun _ => 0#8, 2, true⟩, ⟨fB, 1, false⟩]) 1 = 0 from rfl]
  have S17 := Lib.hid (show ShI w w17 T17 B (kS true [⟨fun _ => 0#8, 2, true⟩, ⟨fB, 1, false⟩]) X Y from S16.out.step p17 f17)
  have KA_17 := Lib.hid (KA_16.out.step f17 (by decide))
  have KB_17 := Lib.hid (KB_16.out.step f17 (by decide))
  have KC_17 := Lib.hid (KC_16.out.step f17 (by decide))
  clear p17 f17 S16 KA_16 KB_16 KC_16
  go_wp2_with fail
  refine (pus_any _ 10 B _ 1 w17 S17.out.p).mono ?_
  rintro e w18 ⟨rfl, T18, p18, f18⟩
  rw [show usV (kS true [⟨fun _ => 0#8, 2, true⟩, ⟨fB, 1, false⟩]) 1 = 0 from rfl]
  rw [show usC (kS true [⟨fun _ => 0#8, 2, true⟩, ⟨fB, 1, false⟩]) 1 = 0 from rfl]
  rw [show usM (kS true [⟨fun _ => 0#8, 2, true⟩, ⟨fB, 1, false⟩]) 1 = fun _ => 0#8 from rfl]
  rw [show usE (kS true [⟨fun _ => 0#8, 2, true⟩, ⟨fB, 1, false⟩]) 1 = 131 from rfl]
  have S18 := Lib.hid (show ShI w w18 T18 B (kS true [⟨fun _ => 0#8, 2, true⟩, ⟨fB, 1, false⟩]) X Y from S17.out.step p18 f18)
  have KA_18 := Lib.hid (KA_17.out.step f18 (by decide))
  have KB_18 := Lib.hid (KB_17.out.step f18 (by decide))
  have KC_18 := Lib.hid (KC_17.out.step f18 (by decide))
  clear p18 f18 S17 KA_17 KB_17 KC_17
  obtain ⟨w19, hw19, b19, r19⟩ := keyAlloc w18 (fun _ => 0#8)
  obtain ⟨Z19, hZ19⟩ : ∃ Z, Z = w18.heap.size := ⟨_, rfl⟩
  have S19 := Lib.hid (S18.out.new b19)
  have KA_19 := Lib.hid (KA_18.out.new b19)
  have KB_19 := Lib.hid (KB_18.out.new b19)
  have KC_19 := Lib.hid (KC_18.out.new b19)
  have HW19 := Lib.hid hw19
  have HZ19 := Lib.hid hZ19
  have q0 := S19.out.a.row
  rw [hw19] at q0
  have q1 := S19.out.b.row
  rw [hw19] at q1
  have q2 := KA_19.out.row
  rw [hw19] at q2
  have q3 := KB_19.out.row
  rw [hw19] at q3
  have q4 := KC_19.out.row
  rw [hw19] at q4
  clear hw19 b19 r19 hZ19 S18 KA_18 KB_18 KC_18
  have eA := eqB_reflK 32 fA
  have eB := eqB_reflK 32 fB
  go_wp2_with fail
  rw [← HW19.out]
  go_ret
  exact ⟨rfl, S19.out.bel⟩
end Go.Proofs.Ytabchkcieddhpaa.Oct

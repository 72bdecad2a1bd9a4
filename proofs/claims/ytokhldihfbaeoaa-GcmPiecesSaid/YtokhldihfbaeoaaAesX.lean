/- Contract of the reference's Expand: sixty slices of four bytes. -/
import Derived.Test.YtokhldihfbaeoaaAesT
import Derived.Test.YtokhldihfbaeoaaTySl
import Derived.Deep.AppendLies
namespace Go.Proofs.Ytokhldihfbaeoaa.Oct
open Go.ChangeShapes Go.WideShapes Go.ChangeAt Go.RowKit

/-- the cells of n values -/
@[irreducible] def va (n : Nat) (A : Nat → Value) : Array Value := Array.ofFn (n := n) fun i => A i
def updV (A : Nat → Value) (k : Nat) (v : Value) : Nat → Value := fun i => if i = k then v else A i
theorem va_size (n : Nat) (A : Nat → Value) : (va n A).size = n := by unfold va; simp
theorem va_get (n : Nat) (A : Nat → Value) (k : Nat) (h : k < n) : (va n A)[k]? = some (A k) := by unfold va; simp [h]
theorem va_none (n : Nat) (A : Nat → Value) (k : Nat) (h : ¬ k < n) : (va n A)[k]? = none := by unfold va; simp; omega
theorem va_elem (n : Nat) (A : Nat → Value) (k : Nat) (h : k < (va n A).size) : (va n A)[k] = A k := by
  have e := va_get n A k (by rwa [va_size] at h)
  rw [Array.getElem?_eq_getElem h] at e
  exact Option.some.inj e
theorem va_set (n : Nat) (A : Nat → Value) (k : Nat) (v : Value) : (va n A).setIfInBounds k v = va n (updV A k v) := by
  apply Array.ext_getElem?
  intro i
  rw [Array.getElem?_setIfInBounds]
  by_cases hi : i < n
  · rw [va_get n (updV A k v) i hi, va_size, va_get n A i hi]
    by_cases hk : k = i
    · subst hk; simp [updV, hi]
    · have : ¬ i = k := fun e => hk e.symm
      simp [hk, updV, this]
  · rw [va_none n (updV A k v) i hi, va_size, va_none n A i hi]
    by_cases hk : k = i
    · subst hk; simp [hi]
    · simp [hk]
attribute [go_sem] va_size va_elem
theorem row_setCellV {w : World} {b n : Nat} {A : Nat → Value} (h : row w b = some (va n A)) (i : Nat) (v : Value) : row (w.setCell ⟨b, i, none⟩ v) b = some (va n (updV A i v)) := by
  rw [setCell_row h, row_setRow h, va_set]

/-- a slice of four bytes that lies in a block other than p and q -/
def WordAt (w : World) (p q : Nat) (v : Value) (f : Bf) : Prop :=
  ∃ b o c, v = .slice (some ⟨b, o, none⟩) 4 c ∧ b ≠ p ∧ b ≠ q ∧ b < w.heap.size ∧ ∀ i, i < 4 → w.cell? ⟨b, o + i, none⟩ = some (.int .u8 (I (f i)))
theorem WordAt.below {w w' : World} {p q : Nat} {v : Value} {f : Bf} (h : WordAt w p q v f) (hb : Below w.heap.size w w') : WordAt w' p q v f := by
  obtain ⟨b, o, c, rfl, h1, h2, h3, h4⟩ := h
  exact ⟨b, o, c, rfl, h1, h2, by have := hb.size; omega, fun i hi => by rw [hb.cell (p := ⟨b, o + i, none⟩) h3]; exact h4 i hi⟩
theorem WordAt.setCell {w : World} {p q : Nat} {v : Value} {f : Bf} (h : WordAt w p q v f) (i : Nat) (u : Value) : WordAt (w.setCell ⟨q, i, none⟩ u) p q v f := by
  obtain ⟨b, o, c, rfl, h1, h2, h3, h4⟩ := h
  exact ⟨b, o, c, rfl, h1, h2, by simpa using h3, fun j hj => by rw [World.cell?_setCell_other _ _ _ _ (by intro e; exact h2 (congrArg Addr.block e).symm)]; exact h4 j hj⟩

/-- what is known at the head of the first loop: m words are there -/
structure XInv (w : World) (k : Bf) (m : Nat) (A : Nat → Value) (wr : World) : Prop where
  below : Below w.heap.size w wr
  size : w.heap.size + 3 ≤ wr.heap.size
  r0 : row wr w.heap.size = some (ba 32 k)
  r1 : row wr (w.heap.size + 1) = some (ba 240 fun _ => 0#8)
  r2 : row wr (w.heap.size + 1 + 1) = some (va 60 A)
  wd : ∀ j, j < m → WordAt wr (w.heap.size + 1) (w.heap.size + 1 + 1) (A j) (offF (expF k) (4 * j))
theorem XInv.call {w : World} {k : Bf} {m : Nat} {A : Nat → Value} {wr w' : World} (h : XInv w k m A wr) (hb : Below wr.heap.size wr w') : XInv w k m A w' :=
  ⟨onto h.below (by have := h.size; omega) hb, Nat.le_trans h.size hb.size, carry hb h.r0, carry hb h.r1, carry hb h.r2, fun j hj => (h.wd j hj).below hb⟩
/-- one word more -/
theorem XInv.next {w : World} {k : Bf} {m : Nat} {A : Nat → Value} {wr : World} (h : XInv w k m A wr) (v : Value) (hv : WordAt wr (w.heap.size + 1) (w.heap.size + 1 + 1) v (offF (expF k) (4 * m))) :
    XInv w k (m + 1) (updV A m v) (wr.setCell ⟨w.heap.size + 1 + 1, m, none⟩ v) := by
  refine ⟨h.below.setCell (by simp; omega) _, by simpa using h.size, by rw [row_setCell_other _ _ _ _ (by simp; omega)]; exact h.r0, by rw [row_setCell_other _ _ _ _ (by simp)]; exact h.r1, row_setCellV h.r2 m v, fun j hj => ?_⟩
  by_cases e : j = m
  · subst e; simp only [updV, if_true]; exact hv.setCell _ _
  · simp only [updV, e, if_false]; exact (h.wd j (by omega)).setCell _ _

/-- the word t on its way, in block g, behind a world wr of which nothing has turned -/
structure TInv (wr : World) (g : Nat) (t : Bf) (w' : World) : Prop where
  below : Below wr.heap.size wr w'
  hg : wr.heap.size ≤ g
  lt : g < w'.heap.size
  ct : ∀ i, i < 4 → w'.cell? ⟨g, i, none⟩ = some (.int .u8 (I (t i)))
  fr : ∀ i, w'.frozen? ⟨g, i, none⟩ = false
theorem TInv.drewN {wr : World} {g : Nat} {t : Bf} {w' : World} (h : TInv wr g t w') (n : Nat) : TInv wr g t (w'.drewN n) := ⟨below_drewN h.below n, h.hg, h.lt, h.ct, h.fr⟩
theorem TInv.set {wr : World} {g : Nat} {t : Bf} {w' : World} (h : TInv wr g t w') (i : Nat) (v : BitVec 8) : TInv wr g (upd t i v) (w'.setCell ⟨g, i, none⟩ (.int .u8 (I v))) := by
  refine ⟨h.below.setCell h.hg _, h.hg, by simpa using h.lt, fun j hj => ?_, fun j => by rw [World.frozen?_setCell]; exact h.fr j⟩
  by_cases e : j = i
  · subst e
    rw [World.cell?_setCell_same _ _ _ (h.ct j hj)]; simp [upd]
  · rw [World.cell?_setCell_other _ _ _ _ (fun e' => e (congrArg Addr.off e').symm)]; simp only [upd, e, if_false]; exact h.ct j hj
/-- a literal of four bytes -/
theorem TInv.lit {wr w2 : World} (hb : Below wr.heap.size wr w2) (a b c d : BitVec 8) (ty : TypeId) :
    TInv wr w2.heap.size (fun j => if j = 0 then a else if j = 1 then b else if j = 2 then c else d) (w2.alloc (.cells #[.int .u8 (I a), .int .u8 (I b), .int .u8 (I c), .int .u8 (I d)] ty)) := by
  refine ⟨hb.alloc hb.size _, hb.size, by simp, fun i hi => ?_, fun i => by rw [World.frozen?_alloc_at _ _ _ _ rfl]⟩
  rw [World.cell?_alloc_at _ _ _ _ rfl]
  have : i = 0 ∨ i = 1 ∨ i = 2 ∨ i = 3 := by omega
  rcases this with rfl | rfl | rfl | rfl <;> rfl
/-- an empty slice, and four bytes laid behind it -/
theorem TInv.append {wr w2 : World} {B g cap : Nat} {t : Bf} {ty : TypeId} (hown : w2.ownsRow B ty 1 (.slice (some ⟨g, 0, none⟩) (0 + 4) cap) (0 + 4) ([] ++ (ba 4 t).toList)) (hgrow : (wr.alloc (.cells #[] ty)).grownBy w2 (some wr.heap.size))
    (hat : Value.ownBlock (.slice (some ⟨wr.heap.size, 0, none⟩) 0 0) = some g ∨ g = wr.heap.size + 1) (hlt : g < w2.heap.size) : TInv wr g t w2 := by
  have hg : wr.heap.size ≤ g := by
    rcases hat with h | h
    · have : wr.heap.size = g := by simpa [Value.ownBlock] using h
      omega
    · omega
  rcases hown with ⟨_, ⟨h, _⟩ | ⟨g', cap', cur, hv, _, hh, _, _, hcs, htk⟩⟩
  · cases h
  · have e : g = g' := by injection hv with h1 _ _; injection h1 with h2; exact congrArg Addr.block h2
    subst e
    refine ⟨((Below.refl _ _).alloc (Nat.le_refl _) _).grown hgrow (by simp) (fun k hk => Nat.le_of_eq (Option.some.inj hk)), hg, hlt, fun i hi => ?_, fun i => frozen_of_row w2 g i cur _ hh⟩
    rw [cell_of_row w2 g i cur _ (0, 0) hh, ← Array.getElem?_toList]
    have e2 : (cur.toList.take (4 * 1))[i]? = ((ba 4 t).toList)[i]? := by
      rw [show 4 * 1 = (0 + 4) * 1 from rfl, htk, List.nil_append]
    rw [List.getElem?_take, if_pos (by omega)] at e2
    rw [e2, Array.getElem?_toList, ba_get 4 t i hi]
theorem xword0 (k : Bf) (m : Nat) (h8 : 8 ≤ m) (hm : m < 60) (h0 : m % 8 = 0) {T V : Bf} (hT : T = offF (expF k) (4 * (m - 1))) (hV : V = offF (expF k) (4 * (m - 8))) (i : Nat) (hi : i < 4) :
    xorF (fun j => if j = 0 then box (T 1) ^^^ pwr ((m - 1) / 8) else if j = 1 then box (T 2) else if j = 2 then box (T 3) else box (T 0)) V i = offF (expF k) (4 * m) i := by
  subst hT; subst hV
  unfold xorF
  rw [BitVec.xor_comm]
  show _ = expF k (4 * m + i)
  rw [exp_rec k m i h8 hm hi]
  unfold newW
  rw [if_pos h0, show (m - 1) / 8 = m / 8 - 1 by omega]
  have : i = 0 ∨ i = 1 ∨ i = 2 ∨ i = 3 := by omega
  rcases this with rfl | rfl | rfl | rfl
  · rfl
  · simp [offF]
  · simp [offF]
  · simp [offF]
theorem xword4 (k : Bf) (m : Nat) (h8 : 8 ≤ m) (hm : m < 60) (h0 : ¬ m % 8 = 0) (h4 : m % 8 = 4) {T V : Bf} (hT : T = offF (expF k) (4 * (m - 1))) (hV : V = offF (expF k) (4 * (m - 8))) (i : Nat) (hi : i < 4) :
    xorF (fun j => if j = 0 then box (T 0) else if j = 1 then box (T 1) else if j = 2 then box (T 2) else box (T 3)) V i = offF (expF k) (4 * m) i := by
  subst hT; subst hV
  unfold xorF
  rw [BitVec.xor_comm]
  show _ = expF k (4 * m + i)
  rw [exp_rec k m i h8 hm hi]
  unfold newW
  rw [if_neg h0, if_pos h4]
  have : i = 0 ∨ i = 1 ∨ i = 2 ∨ i = 3 := by omega
  rcases this with rfl | rfl | rfl | rfl <;> rfl
theorem xword1 (k : Bf) (m : Nat) (h8 : 8 ≤ m) (hm : m < 60) (h0 : ¬ m % 8 = 0) (h4 : ¬ m % 8 = 4) {T V : Bf} (hT : T = offF (expF k) (4 * (m - 1))) (hV : V = offF (expF k) (4 * (m - 8))) (i : Nat) (hi : i < 4) :
    xorF T V i = offF (expF k) (4 * m) i := by
  subst hT; subst hV
  unfold xorF
  rw [BitVec.xor_comm]
  show _ = expF k (4 * m + i)
  rw [exp_rec k m i h8 hm hi]
  unfold newW
  rw [if_neg h0, if_neg h4]
  rfl
theorem key_sl (B m : Nat) (hm : m < 8) (w : World) : (Instr.sliceAt 23 (.pointer (some ⟨B, 0, none⟩)) (some (.int .i64 (4 * (m : Int)))) (some (.int .i64 (4 * (m : Int) + 4))) none).run Try.prog w = .ok (.slice (some ⟨B, 4 * m, none⟩) 4 (32 - 4 * m)) w := by
  have hL : Try.prog.arrayLen 23 = 32 := by kernel_rfl
  have hE : Try.prog.elem 23 = 5 := by kernel_rfl
  have hs : (sizeOf 5).run Try.prog w = .ok 1 w := by kernel_rfl
  rw [run_sliceAt_array_lh w 23 ⟨B, 0, none⟩ (by kernel_rfl) .i64 .i64 _ _ (by omega) (by omega) (by rw [hL]; omega), hE, hs, hL, Result.andThen_ok]
  have e1 : (4 * (m : Int)).toNat = 4 * m := by omega
  have e2 : (4 * (m : Int) + 4).toNat = 4 * m + 4 := by omega
  rw [e1, e2]
  unfold slicedAt
  rw [if_neg (by omega), add_mid, show 0 + 4 * m * 1 = 4 * m by omega, show 4 * m + 4 - 4 * m = 4 by omega]
set_option maxRecDepth 20000 in
set_option maxHeartbeats 4000000 in
theorem refexpand_any (k : Bf) (w : World) :
    Calls Try.prog 24 #[.agg (ba 32 k)] w fun e w' => e = .returned (.agg (ba 240 (expF k))) ∧ Below w.heap.size w w' := by
  have hmk : ∀ w : World, (Instr.makeSlice 63 (.int .i64 60) (.int .i64 60)).run Try.prog w = .ok (.slice (some ⟨w.heap.size, 0, none⟩) 60 60) (w.alloc (.cells (va 60 fun _ => .slice none 0 0) 26)) := fun _ => by unfold va; kernel_rfl
  have X0 : XInv w k 0 (fun _ => .slice none 0 0) (((w.alloc (.cells (ba 32 k) 23)).alloc (.cells (ba 240 fun _ => 0#8) 51)).alloc (.cells (va 60 fun _ => .slice none 0 0) 26)) :=
    ⟨(((Below.refl _ _).alloc (by simp) _).alloc (by simp) _).alloc (by simp; omega) _, by simp, by simp [go_sem], by simp [go_sem], by simp [go_sem], fun j hj => by omega⟩
  have HX0 := Lib.hid X0
  clear X0
  go_enter Try.func24, Try.ntmps24
  go_wp2
  go_loopw [4, 5] (fun p i wr => ∃ m : Nat, ∃ A : Nat → Value, m ≤ 60 ∧ i = .int .i64 m ∧ p = .int .u8 (I (pwr ((m - 1) / 8))) ∧ XInv w k m A wr) (fun _ i _ => 60 - (intOf i).toNat)
  case atStart => exact ⟨0, _, by omega, rfl, rfl, HX0.out⟩
  case round =>
    clear HX0 hmk
    obtain ⟨m, A, hm, rfl, rfl, hI⟩ := hrel
    obtain ⟨wo, rfl⟩ : ∃ wo : World, wo = wr := ⟨_, rfl⟩
    by_cases hlt : m < 60
    · have hd60 : decide ((m : Int) < 60) = true := by simp; omega
      have hc2 := cell_row hI.r2
      have hf2 := froz_row hI.r2
      by_cases h8 : m < 8
      · have hd8 : decide ((m : Int) < 8) = true := by simp; omega
        have hsl := key_sl w.heap.size m h8
        have hw : WordAt wo (w.heap.size + 1) (w.heap.size + 1 + 1) (.slice (some ⟨w.heap.size, 4 * m, none⟩) 4 (32 - 4 * m)) (offF (expF k) (4 * m)) :=
          ⟨_, _, _, rfl, by omega, by omega, by have := hI.size; omega, fun i hi => by rw [cell_row hI.r0, ba_get 32 k _ (by omega)]; unfold offF; rw [exp_key k _ (by omega)]⟩
        have HN := Lib.hid (hI.next _ hw)
        have b60 : m < 60 := by omega
        clear hI hw
        go_wp2
        go_roundw
        case rel => exact ⟨m + 1, _, by omega, by go_num, by rw [show (m - 1) / 8 = 0 by omega, show (m + 1 - 1) / 8 = 0 by omega], HN.out⟩
        case measure => simp [intOf]; omega
      · have hd8 : decide ((m : Int) < 8) = false := by simp; omega
        obtain ⟨b1, o1, c1, hA1, n11, n12, l1, ct1⟩ := hI.wd (m - 1) (by omega)
        obtain ⟨bb8, o8, c8, hA8, n81, n82, l8, ct8⟩ := hI.wd (m - 8) (by omega)
        have hm8 : m - 8 < 60 := by omega
        have hlt60 : m < 60 := hlt
        obtain ⟨V, hV⟩ : ∃ V, V = offF (expF k) (4 * (m - 8)) := ⟨_, rfl⟩
        rw [← hV] at ct8
        have HV := Lib.hid hV
        have HCT8 := Lib.hid ct8
        clear hV ct8
        have hBs : w.heap.size + 1 + 1 < wo.heap.size := by have := hI.size; omega
        have hm1 : m - 1 < 60 := by omega
        obtain ⟨i0, hi, hz0, hz1, hz2⟩ := info_parts u8_info
        obtain ⟨T, hT⟩ : ∃ T, T = offF (expF k) (4 * (m - 1)) := ⟨_, rfl⟩
        rw [← hT] at ct1
        have hown : (wo.alloc (.cells #[] 5)).ownsRow (w.heap.size + 3) 5 1 (.slice (some ⟨wo.heap.size, 0, none⟩) 0 0) 0 [] :=
          ⟨rfl, .inr ⟨wo.heap.size, 0, #[], rfl, hI.size, heap_alloc_new wo _, by omega, by unfold maxLen; omega, rfl, rfl⟩⟩
        have hnews : ∀ j u, (ba 4 T).toList[j]? = some u → (wo.alloc (.cells #[] 5)).cell? ((⟨b1, o1, none⟩ : Addr).add j) = some u := fun j u hu => by
          rw [Array.getElem?_toList] at hu
          by_cases hj : j < 4
          · rw [ba_get 4 T j hj] at hu
            rw [add_mid, World.cell?_alloc_lt _ _ _ l1, ct1 j hj, hu]
          · rw [ba_none 4 T j hj] at hu; cases hu
        have h1 : ∀ u ∈ (ba 4 T).toList, u.oneCell' = true := fun u hu => (Array.all_eq_true_iff_forall_mem.1 (ba_one 4 T)) u (by simpa using hu)
        have hl4 : (ba 4 T).toList.length = 4 * 1 := by rw [Array.length_toList, ba_size]
        have hbase : w.heap.size + 3 ≤ (wo.alloc (.cells #[] 5)).heap.size := by have := hI.size; simp; omega
        have HT := Lib.hid hT
        have HI := Lib.hid hI
        have HL := Lib.hid hl4
        have HO := Lib.hid hown
        have HNW := Lib.hid hnews
        have H1 := Lib.hid h1
        have HBASE := Lib.hid hbase
        have HCT := Lib.hid ct1
        have hi' := Lib.hid hi
        have hz0' := Lib.hid hz0
        have hz1' := Lib.hid hz1
        have hz2' := Lib.hid hz2
        clear hI hown hnews h1 hl4 hbase hT ct1 hi hz0 hz1 hz2
        have HTA := fun (w2 : World) (g cap : Nat) h1 h2 h3 h4 => TInv.append (wr := wo) (w2 := w2) (B := w.heap.size + 3) (g := g) (cap := cap) (t := T) (ty := 5) h1 h2 h3 h4
        have HAPP := Lib.hid HTA
        clear HTA
        by_cases hm0 : m % 8 = 0
        · have hd0 : ((m : Int) % 8 == 0) = true := by simp; omega
          have hd4 : ((m : Int) % 8 == 4) = false := by simp; omega
          go_wp2_with (at_builtin; refine wpList_append_lies _ rfl _ _ 26 rfl (w.heap.size + 3) 5 i0 (.int .u8 0) 1 1 Try.underlying26 hi'.out hz0'.out hz1'.out hz2'.out rfl (by decide) _ 0 [] rfl HO.out ⟨b1, o1, none⟩ 4 c1 (ba 4 T).toList rfl HL.out HNW.out H1.out (by decide) (by unfold maxLen; decide) (by decide) HBASE.out (wo.heap.size + 1) (by simp) ?_; intro g cap w2 hown2 hgrow hat hlt)
          have ht := HAPP.out _ _ _ hown2 hgrow hat hlt
          clear hown2 hgrow hat hlt hc2 hf2
          have e0 := ht.ct 0 (by omega)
          have e1 := ht.ct 1 (by omega)
          have e2 := ht.ct 2 (by omega)
          have e3 := ht.ct 3 (by omega)
          have HTB := Lib.hid ht.below
          clear ht
          refine quiet_tail 18 (by kernel_rfl) (by kernel_rfl) (fun _ _ _ _ _ h => h) ?_
          simp only [List.take_succ_cons, List.take_zero, List.drop_succ_cons, List.drop_zero]
          repeat (go_big_quiet_step ((first | (with_reducible refine Calls.quiet_of (rbox_any (T 0) rfl _)) | (with_reducible refine Calls.quiet_of (rbox_any (T 1) rfl _)) | (with_reducible refine Calls.quiet_of (rbox_any (T 2) rfl _)) | (with_reducible refine Calls.quiet_of (rbox_any (T 3) rfl _)))))
          refine wpQuiet_nil ?_
          rintro _ ⟨nq, rfl⟩
          clear e0 e1 e2 e3
          have HPW := Lib.hid (show mul (pwr ((m - 1) / 8)) 2#8 = pwr ((m + 1 - 1) / 8) by rw [mul_two, show (m + 1 - 1) / 8 = (m - 1) / 8 + 1 by omega]; rfl)
          go_wp2_with (go_at_call 42; (refine (rmul_any (pwr ((m - 1) / 8)) 2#8 rfl two8 _).mono ?_); rintro e w' ⟨rfl, rfl⟩)
          obtain ⟨U, hU⟩ : ∃ U, U = (fun j => if j = 0 then box (T 1) ^^^ pwr ((m - 1) / 8) else if j = 1 then box (T 2) else if j = 2 then box (T 3) else box (T 0)) := ⟨_, rfl⟩
          have HU := Lib.hid hU
          have HTI := Lib.hid (show TInv wo w2.heap.size U _ from by rw [hU]; exact (TInv.lit HTB.out _ _ _ _ 5).drewN nq)
          clear hU
          go_loopw [7] (fun j wq => ∃ r : Nat, r ≤ 4 ∧ j = .int .i64 r ∧ TInv wo w2.heap.size (upto r (xorF U V) U) wq) (fun j _ => 4 - (intOf j).toNat)
          case atStart => exact ⟨0, by omega, rfl, by rw [upto_zero]; exact HTI.out⟩
          case round =>
            clear HTI
            obtain ⟨r, hr, rfl, hq⟩ := hrel
            have hc2 := cell_row (carry hq.below HI.out.r2)
            have hf2 := froz_row (carry hq.below HI.out.r2)
            by_cases hlr : r < 4
            · have hct := hq.ct r hlr
              rw [upto_at] at hct
              have hfr := hq.fr
              have hc8 : wr.cell? ⟨bb8, o8 + r, none⟩ = some (.int .u8 (I (V r))) := by rw [hq.below.cell (p := ⟨bb8, o8 + r, none⟩) l8]; exact HCT8.out r hlr
              have HQ := Lib.hid hq
              have HS := Lib.hid (upto_step r (xorF U V) U)
              clear hq
              go_wp2
              refine quiet_tail 16 (by kernel_rfl) (by kernel_rfl) (fun _ _ _ _ _ h => h) ?_
              simp only [List.take_succ_cons, List.take_zero, List.drop_succ_cons, List.drop_zero]
              repeat (go_big_quiet_step (fail))
              refine wpQuiet_nil ?_
              rintro _ ⟨nq, rfl⟩
              go_wp2
              go_roundw
              case rel => exact ⟨r + 1, by omega, by go_num, by rw [← HS.out]; exact (HQ.out.drewN nq).set r _⟩
              case measure => simp [intOf]; omega
            · obtain rfl : r = 4 := by omega
              have HN := Lib.hid ((HI.out.call hq.below).next (.slice (some ⟨w2.heap.size, 0, none⟩) 4 4) ⟨_, _, _, rfl, by have := hq.hg; omega, by have := hq.hg; omega, hq.lt, fun i hi => by
                rw [Nat.zero_add, hq.ct i hi]
                simp only [upto, hi, if_true]
                rw [HU.out, xword0 k m (by omega) hlt60 hm0 HT.out HV.out i hi]⟩)
              clear hq
              go_wp2
              go_roundw
              case rel => exact ⟨m + 1, _, by omega, by go_num, by rw [HPW.out], HN.out⟩
              case measure => simp [intOf]; omega
        · have hd0 : ((m : Int) % 8 == 0) = false := by simp; omega
          by_cases hm4 : m % 8 = 4
          · have hd4 : ((m : Int) % 8 == 4) = true := by simp; omega
            go_wp2_with (at_builtin; refine wpList_append_lies _ rfl _ _ 26 rfl (w.heap.size + 3) 5 i0 (.int .u8 0) 1 1 Try.underlying26 hi'.out hz0'.out hz1'.out hz2'.out rfl (by decide) _ 0 [] rfl HO.out ⟨b1, o1, none⟩ 4 c1 (ba 4 T).toList rfl HL.out HNW.out H1.out (by decide) (by unfold maxLen; decide) (by decide) HBASE.out (wo.heap.size + 1) (by simp) ?_; intro g cap w2 hown2 hgrow hat hlt)
            have ht := HAPP.out _ _ _ hown2 hgrow hat hlt
            clear hown2 hgrow hat hlt hc2 hf2
            have e0 := ht.ct 0 (by omega)
            have e1 := ht.ct 1 (by omega)
            have e2 := ht.ct 2 (by omega)
            have e3 := ht.ct 3 (by omega)
            have HTB := Lib.hid ht.below
            clear ht
            refine quiet_tail 16 (by kernel_rfl) (by kernel_rfl) (fun _ _ _ _ _ h => h) ?_
            simp only [List.take_succ_cons, List.take_zero, List.drop_succ_cons, List.drop_zero]
            repeat (go_big_quiet_step ((first | (with_reducible refine Calls.quiet_of (rbox_any (T 0) rfl _)) | (with_reducible refine Calls.quiet_of (rbox_any (T 1) rfl _)) | (with_reducible refine Calls.quiet_of (rbox_any (T 2) rfl _)) | (with_reducible refine Calls.quiet_of (rbox_any (T 3) rfl _)))))
            refine wpQuiet_nil ?_
            rintro _ ⟨nq, rfl⟩
            clear e0 e1 e2 e3
            go_wp2
            obtain ⟨U, hU⟩ : ∃ U, U = (fun j => if j = 0 then box (T 0) else if j = 1 then box (T 1) else if j = 2 then box (T 2) else box (T 3)) := ⟨_, rfl⟩
            have HU := Lib.hid hU
            have HTI := Lib.hid (show TInv wo w2.heap.size U _ from by rw [hU]; exact (TInv.lit HTB.out _ _ _ _ 5).drewN nq)
            clear hU
            go_loopw [7] (fun j wq => ∃ r : Nat, r ≤ 4 ∧ j = .int .i64 r ∧ TInv wo w2.heap.size (upto r (xorF U V) U) wq) (fun j _ => 4 - (intOf j).toNat)
            case atStart => exact ⟨0, by omega, rfl, by rw [upto_zero]; exact HTI.out⟩
            case round =>
              clear HTI
              obtain ⟨r, hr, rfl, hq⟩ := hrel
              have hc2 := cell_row (carry hq.below HI.out.r2)
              have hf2 := froz_row (carry hq.below HI.out.r2)
              by_cases hlr : r < 4
              · have hct := hq.ct r hlr
                rw [upto_at] at hct
                have hfr := hq.fr
                have hc8 : wr.cell? ⟨bb8, o8 + r, none⟩ = some (.int .u8 (I (V r))) := by rw [hq.below.cell (p := ⟨bb8, o8 + r, none⟩) l8]; exact HCT8.out r hlr
                have HQ := Lib.hid hq
                have HS := Lib.hid (upto_step r (xorF U V) U)
                clear hq
                go_wp2
                refine quiet_tail 16 (by kernel_rfl) (by kernel_rfl) (fun _ _ _ _ _ h => h) ?_
                simp only [List.take_succ_cons, List.take_zero, List.drop_succ_cons, List.drop_zero]
                repeat (go_big_quiet_step (fail))
                refine wpQuiet_nil ?_
                rintro _ ⟨nq, rfl⟩
                go_wp2
                go_roundw
                case rel => exact ⟨r + 1, by omega, by go_num, by rw [← HS.out]; exact (HQ.out.drewN nq).set r _⟩
                case measure => simp [intOf]; omega
              · obtain rfl : r = 4 := by omega
                have HN := Lib.hid ((HI.out.call hq.below).next (.slice (some ⟨w2.heap.size, 0, none⟩) 4 4) ⟨_, _, _, rfl, by have := hq.hg; omega, by have := hq.hg; omega, hq.lt, fun i hi => by
                  rw [Nat.zero_add, hq.ct i hi]
                  simp only [upto, hi, if_true]
                  rw [HU.out, xword4 k m (by omega) hlt60 hm0 hm4 HT.out HV.out i hi]⟩)
                clear hq
                go_wp2
                go_roundw
                case rel => exact ⟨m + 1, _, by omega, by go_num, by rw [show (m - 1) / 8 = (m + 1 - 1) / 8 by omega], HN.out⟩
                case measure => simp [intOf]; omega
          · have hd4 : ((m : Int) % 8 == 4) = false := by simp; omega
            go_wp2_with (at_builtin; refine wpList_append_lies _ rfl _ _ 26 rfl (w.heap.size + 3) 5 i0 (.int .u8 0) 1 1 Try.underlying26 hi'.out hz0'.out hz1'.out hz2'.out rfl (by decide) _ 0 [] rfl HO.out ⟨b1, o1, none⟩ 4 c1 (ba 4 T).toList rfl HL.out HNW.out H1.out (by decide) (by unfold maxLen; decide) (by decide) HBASE.out (wo.heap.size + 1) (by simp) ?_; intro g cap w2 hown2 hgrow hat hlt)
            have ht := HAPP.out _ _ _ hown2 hgrow hat hlt
            clear hown2 hgrow hat hlt hc2 hf2
            obtain ⟨U, hU⟩ : ∃ U, U = T := ⟨_, rfl⟩
            have HU := Lib.hid hU
            have HTI := Lib.hid (show TInv wo g U _ from by rw [hU]; exact ht)
            clear hU
            go_loopw [7] (fun j wq => ∃ r : Nat, r ≤ 4 ∧ j = .int .i64 r ∧ TInv wo g (upto r (xorF U V) U) wq) (fun j _ => 4 - (intOf j).toNat)
            case atStart => exact ⟨0, by omega, rfl, by rw [upto_zero]; exact HTI.out⟩
            case round =>
              clear HTI
              obtain ⟨r, hr, rfl, hq⟩ := hrel
              have hc2 := cell_row (carry hq.below HI.out.r2)
              have hf2 := froz_row (carry hq.below HI.out.r2)
              by_cases hlr : r < 4
              · have hct := hq.ct r hlr
                rw [upto_at] at hct
                have hfr := hq.fr
                have hc8 : wr.cell? ⟨bb8, o8 + r, none⟩ = some (.int .u8 (I (V r))) := by rw [hq.below.cell (p := ⟨bb8, o8 + r, none⟩) l8]; exact HCT8.out r hlr
                have HQ := Lib.hid hq
                have HS := Lib.hid (upto_step r (xorF U V) U)
                clear hq
                go_wp2
                refine quiet_tail 16 (by kernel_rfl) (by kernel_rfl) (fun _ _ _ _ _ h => h) ?_
                simp only [List.take_succ_cons, List.take_zero, List.drop_succ_cons, List.drop_zero]
                repeat (go_big_quiet_step (fail))
                refine wpQuiet_nil ?_
                rintro _ ⟨nq, rfl⟩
                go_wp2
                go_roundw
                case rel => exact ⟨r + 1, by omega, by go_num, by rw [← HS.out]; exact (HQ.out.drewN nq).set r _⟩
                case measure => simp [intOf]; omega
              · obtain rfl : r = 4 := by omega
                have HN := Lib.hid ((HI.out.call hq.below).next (.slice (some ⟨g, 0, none⟩) 4 cap) ⟨_, _, _, rfl, by have := hq.hg; omega, by have := hq.hg; omega, hq.lt, fun i hi => by
                  rw [Nat.zero_add, hq.ct i hi]
                  simp only [upto, hi, if_true]
                  rw [HU.out, xword1 k m (by omega) hlt60 hm0 hm4 HT.out HV.out i hi]⟩)
                clear hq
                go_wp2
                go_roundw
                case rel => exact ⟨m + 1, _, by omega, by go_num, by rw [show (m - 1) / 8 = (m + 1 - 1) / 8 by omega], HN.out⟩
                case measure => simp [intOf]; omega
    · obtain rfl : m = 60 := by omega
      clear hlt
      rw [show ((60 : Nat) : Int) = 60 from rfl]
      have hd60 : decide ((60 : Int) < 60) = false := by decide
      have HI := Lib.hid hI
      obtain ⟨F, hF⟩ : ∃ F, F = expF k := ⟨_, rfl⟩
      have HF := Lib.hid hF
      clear hI hF
      go_wp2
      clear hd60
      go_loopw [9] (fun i wq => ∃ c : Nat, c ≤ 60 ∧ i = .int .i64 c ∧ ∃ n, wq = (wo.alloc (.cells (ba 240 (upto (4 * c) F fun _ => 0#8)) 51)).drewN n) (fun i _ => 60 - (intOf i).toNat)
      case atStart => exact ⟨0, by omega, rfl, 0, by rw [Nat.mul_zero, upto_zero]; rfl⟩
      case round =>
        obtain ⟨c, hc, rfl, n, rfl⟩ := hrel
        by_cases hlc : c < 60
        · have hd : decide ((c : Int) < 60) = true := by simp; omega
          obtain ⟨b, o, cc, hA, n1, n2, lb, hct⟩ := HI.out.wd c hlc
          have HCT := Lib.hid hct
          clear hct
          go_wp2
          go_loopw [10] (fun j wq => ∃ r : Nat, r ≤ 4 ∧ j = .int .i64 r ∧ ∃ n, wq = (wo.alloc (.cells (ba 240 (upto (4 * c + r) F fun _ => 0#8)) 51)).drewN n) (fun j _ => 4 - (intOf j).toNat)
          case atStart => exact ⟨0, by omega, rfl, n, rfl⟩
          case round =>
            obtain ⟨r, hr, rfl, n3, rfl⟩ := hrel
            by_cases hlr : r < 4
            · have hcr := HCT.out r hlr
              have hc2 := cell_row HI.out.r2
              have HS := Lib.hid (upto_step (4 * c + r) F fun _ => 0#8)
              have hBs : w.heap.size + 1 + 1 < wo.heap.size := by have := HI.out.size; omega
              have b1 : c / 4 * 16 + (c % 4 * 4 + r) < 240 := by omega
              have E1 := Lib.hid (show c / 4 * 16 + (c % 4 * 4 + r) = 4 * c + r by omega)
              have E2 := Lib.hid (show offF (expF k) (4 * c) r = F (4 * c + r) by rw [HF.out]; rfl)
              go_wp2
              refine quiet_tail 16 (by kernel_rfl) (by kernel_rfl) (fun _ _ _ _ _ h => h) ?_
              simp only [List.take_succ_cons, List.take_zero, List.drop_succ_cons, List.drop_zero]
              repeat (go_big_quiet_step (fail))
              refine wpQuiet_nil ?_
              rintro _ ⟨nq, rfl⟩
              go_wp2
              go_roundw
              case rel => exact ⟨r + 1, by omega, by go_num, _, by rw [E1.out, E2.out, HS.out]; rfl⟩
              case measure => simp [intOf]; omega
            · obtain rfl : r = 4 := by omega
              go_wp2
              go_roundw
              case rel => exact ⟨c + 1, by omega, by go_num, _, rfl⟩
              case measure => simp [intOf]; omega
        · obtain rfl : c = 60 := by omega
          rw [show 4 * 60 = 240 from rfl, upto_all]
          have r1 := row_alloc HI.out.r1 (.cells (ba 240 F) 51)
          have HB := Lib.hid (below_drewN (HI.out.below.alloc (by have := HI.out.size; omega) (.cells (ba 240 F) 51)) n)
          go_wp2
          rw [← HF.out]
          refine bodyPost_ret (v := .agg (ba 240 F)) (res_row rfl _ _ (w.heap.size + 1) _ _ _ rfl (by rw [row_drewN]; exact row_setRow r1 _) bks_u (by rw [ba_size]; exact bks_i)) rfl ⟨rfl, ?_⟩
          exact below_setRow HB.out (by omega) _
end Go.Proofs.Ytokhldihfbaeoaa.Oct

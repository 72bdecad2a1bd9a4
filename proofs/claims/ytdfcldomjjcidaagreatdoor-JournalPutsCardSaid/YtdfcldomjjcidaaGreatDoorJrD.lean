/- Contracts: journal's Frame, Put. -/
import Derived.Test.YtdfcldomjjcidaaGreatDoorJrC
namespace Go.Proofs.YtdfcldomjjcidaaGreatDoor.Oct
open Go.ChangeShapes Go.WideShapes Go.ChangeAt Go.RowKit
set_option linter.unusedVariables false

/-- bytes framed -/
def frE (n : Nat) : Nat := if 4096 < n then 2 else 0
def frL (n : Nat) : Nat := txL n + 4
def frF (n : Nat) (f : Bf) : Bf := catF (txL n) (txF n f) (shaF kF iF f n)
set_option maxRecDepth 20000 in
set_option maxHeartbeats 2000000 in
theorem frame_any (n c : Nat) (A : Option Addr) (f : Bf) (w : World) (ht : Tab w) (hs : Sl w w.heap.size A n c f) (hn : n ≤ 140737488355328) :
    Calls Tryz.prog 6 #[.slice A n c] w (cmP (frE n) (frL n) (frF n f) w) := by
  by_cases h4 : 4096 < n
  · have H1 := Lib.hid (putt_long 0 0 n c none A w h4)
    have HE := Lib.hid (show frE n = 2 by unfold frE; rw [if_pos h4])
    clear h4 hn hs ht
    go_enter Tryz.func6, Tryz.ntmps6
    go_wp2_with fail
    refine H1.out.mono ?_
    rintro e w1 ⟨rfl, rfl⟩
    go_wp2_with fail
    exact bodyPost_ret (v := .tuple #[.slice none 0 0, .int .i64 2]) (by simp [results, Tryz.results6, go_sem]) rfl (.inl ⟨by rw [HE.out]; omega, by rw [HE.out]; rfl, Below.refl _ _⟩)
  · have H1 := Lib.hid (putt_nil n c A f w hs (by omega))
    have HE := Lib.hid (show frE n = 0 by unfold frE; rw [if_neg h4])
    have HS := Lib.hid hs
    have HT := Lib.hid ht
    clear h4 hs ht
    go_enter Tryz.func6, Tryz.ntmps6
    go_wp2_with fail
    refine H1.out.mono ?_
    rintro e w1 ⟨v1, rfl, ho1, hb1⟩
    have O1 := Lib.hid ho1
    have B1 := Lib.hid hb1
    have H2 := Lib.hid (hash_any f n c A w1 (HT.out.below hb1 HT.out.pos) ((HS.out.below hb1).more hb1.size) hn)
    clear ho1 hb1 H1 hn HS HT
    go_wp2_with fail
    refine H2.out.mono ?_
    rintro e w2 ⟨rfl, hb2⟩
    have O2 := Lib.hid (O1.out.below hb2 (Nat.le_refl _))
    have B2 := Lib.hid (onto B1.out B1.out.size hb2)
    clear hb2 H2 O1 B1
    obtain ⟨w3, hw3⟩ : ∃ w3, w3 = w2.alloc (.cells (ba 32 (shaF kF iF f n)) 56) := ⟨_, rfl⟩
    have q3 : row w3 w2.heap.size = some (ba 32 (shaF kF iF f n)) := by rw [hw3]; exact row_alloc_at _ _ _ _ rfl
    have O3 := Lib.hid (show Own w3 w.heap.size 5 v1 (txL n) (txF n f) by rw [hw3]; exact O2.out.alloc _)
    have B3 := Lib.hid (show Below w.heap.size w w3 by rw [hw3]; exact B2.out.alloc B2.out.size _)
    have S3 := Lib.hid (show Sl w3 w3.heap.size (some ⟨w2.heap.size, 0, none⟩) 4 32 (shaF kF iF f n) from (Sl.of_row q3 _ (row_lt q3)).upto 4 (by omega))
    have h9 : txL n ≤ 4105 := by have := txL_le n; have := HE.out; unfold frE at this; split at this <;> omega
    clear O2 B2 q3
    go_upto_region 5 with fail
    simp only [← hw3]
    clear hw3
    go_wp2_with (at_builtin; refine wpl_appB rfl (.tmp 17) (.tmp 18) rfl sli_u u8_info O3.out S3.out (by omega) B3.out.size rfl rfl ?_; intro v4 w4 ho4 hg4 ht4)
    have B4 := O3.out.after hg4 B3.out B3.out.size (Nat.le_refl _)
    exact bodyPost_ret (v := .tuple #[v4, .int .i64 0]) (by simp [results, Tryz.results6, go_sem]) rfl (.inr ⟨HE.out, v4, rfl, ho4, B4⟩)

/-- what Put is refused with -/
instance (r : Rc) : Decidable (rcOk r) := by unfold rcOk; infer_instance
def pcE (r : Rc) : Nat := if ¬ rcOk r then 1 else if rcE r ≠ 0 then rcE r else frE (rcL r)
def pcL (r : Rc) : Nat := frL (rcL r)
def pcF (r : Rc) : Bf := frF (rcL r) (rcF r)
theorem rcL_le (r : Rc) : rcL r ≤ 36 + 9 + enL r.e := by
  unfold rcL
  have h1 := nuL_le (rcX r) (nCn r.k + 1)
  have h2 := nCn_le r.k
  have h3 := txL_le (enL r.e)
  split <;> omega
theorem rcL_small (r : Rc) (h : rcE r = 0) : rcL r ≤ 5000 := by
  unfold rcL
  have h1 := nuL_le (rcX r) (nCn r.k + 1)
  have h2 := nCn_le r.k
  have h3 := txL_le (enL r.e)
  unfold rcE at h
  split
  · rename_i hk
    rw [if_pos hk] at h
    split at h
    · omega
    · split at h <;> omega
  · omega
set_option maxRecDepth 20000 in
set_option maxHeartbeats 2000000 in
theorem put1_rec (r : Rc) (A A' : Option Addr) (c c' X : Nat) (w : World) (ht : Tab w) (hx : row w X = some (rcC r (.slice A r.e.T c) (.slice A' r.e.n c'))) (hr : EnR w r.e A c A' c') (hb : r.k = 2 → EnB r.e) :
    Calls Tryz.prog 23 #[.pointer (some ⟨X, 0, none⟩)] w (atP (fun v w' => pcE r = 0 ∧ Own w' w.heap.size 5 v (pcL r) (pcF r)) (fun E => E = (pcE r : Nat)) w) := by
  have HT := Lib.hid ht
  have HR := Lib.hid hr
  have HB := Lib.hid hb
  have HX := Lib.hid hx
  have q := hx
  have H1 := Lib.hid (check_rec r A A' c c' w)
  clear ht hr hb hx
  go_enter Tryz.func23, Tryz.ntmps23
  go_wp2_with fail
  refine H1.out.mono ?_
  rintro e w1 ⟨hb1, ⟨hk, rfl⟩ | ⟨hk, rfl⟩⟩
  · have B1 := Lib.hid hb1
    have q1 := carry hb1 HX.out
    have H2 := Lib.hid (encode_rec r A A' c c' w1 hk.1 hk.2.1 (HR.out.below hb1) HB.out)
    have HK := Lib.hid hk
    clear hb1 hk H1 q
    go_wp2_with fail
    refine H2.out.mono ?_
    rintro e w2 ⟨hb2, ⟨hz, v2, rfl, ho2⟩ | ⟨hz, rfl⟩⟩
    · obtain ⟨A2, c2, hv2, hs2, -, -⟩ := ho2.sl
      subst hv2
      have B2 := Lib.hid (onto B1.out B1.out.size hb2)
      have H3 := Lib.hid (frame_any (rcL r) c2 A2 (rcF r) w2 (HT.out.below B2.out HT.out.pos) hs2 (by have := rcL_small r hz; omega))
      have HZ := Lib.hid hz
      clear hb2 ho2 hs2 hz H2 B1 q1
      go_wp2_with fail
      refine H3.out.mono ?_
      rintro e w3 (⟨hz, rfl, hb3⟩ | ⟨hz, v3, rfl, ho3, hb3⟩)
      · have B3 := Lib.hid (onto B2.out B2.out.size hb3)
        have HE := Lib.hid (show pcE r = frE (rcL r) by unfold pcE; rw [if_neg (fun h => h HK.out), if_neg (fun h => h HZ.out)])
        rw [← HE.out] at hz ⊢
        have HF := Lib.hid hz
        have hzi : ((pcE r : Nat) : Int) ≠ 0 := by omega
        clear hz hb3 H3
        go_wp2_with fail
        refine (mustb_bad _ _ hzi _).mono ?_
        rintro e w3' ⟨rfl, rfl⟩
        go_wp2_with fail
        exact ⟨rfl, B3.out, .inr ⟨_, hzi, rfl, rfl⟩⟩
      · have B3 := Lib.hid (onto B2.out B2.out.size hb3)
        have HE := Lib.hid (show pcE r = 0 by unfold pcE; rw [if_neg (fun h => h HK.out), if_neg (fun h => h HZ.out), hz])
        have O3 := Lib.hid ho3
        clear hz hb3 H3 ho3
        go_wp2_with fail
        refine (mustb_ok _ _).mono ?_
        rintro e w3' ⟨rfl, rfl⟩
        go_wp2_with fail
        go_ret
        exact ⟨B3.out, .inl ⟨_, rfl, HE.out, O3.out.base B2.out.size⟩⟩
    · have B2 := Lib.hid (onto B1.out B1.out.size hb2)
      have HE := Lib.hid (show pcE r = rcE r by unfold pcE; rw [if_neg (fun h => h HK.out), if_pos hz])
      rw [← HE.out] at hz ⊢
      have hzi : ((pcE r : Nat) : Int) ≠ 0 := by omega
      clear hz hb2 H2
      go_wp2_with fail
      exact ⟨rfl, B2.out, .inr ⟨_, hzi, rfl, rfl⟩⟩
  · have HE : pcE r = 1 := by unfold pcE; rw [if_pos hk]
    have B1 := Lib.hid hb1
    have HE' := Lib.hid HE
    clear hb1 hk H1 HE
    go_wp2_with fail
    exact ⟨rfl, B1.out, .inr ⟨1, by omega, by rw [HE'.out]; rfl, rfl⟩⟩
set_option maxRecDepth 20000 in
set_option maxHeartbeats 2000000 in
theorem put_rec (r : Rc) (A A' : Option Addr) (c c' : Nat) (w : World) (ht : Tab w) (hr : EnR w r.e A c A' c') (hb : r.k = 2 → EnB r.e) :
    Calls Tryz.prog 9 #[.agg (rcC r (.slice A r.e.T c) (.slice A' r.e.n c'))] w (cmP (pcE r) (pcL r) (pcF r) w) := by
  obtain ⟨w1, hw1⟩ : ∃ w1, w1 = w.alloc (.cells (rcC r (.slice A r.e.T c) (.slice A' r.e.n c')) 29) := ⟨_, rfl⟩
  have bw : Below w.heap.size w w1 := by rw [hw1]; exact (Below.refl _ _).alloc (Nat.le_refl _) _
  have B1 := Lib.hid bw
  have R1 := show row w1 w.heap.size = some (rcC r (.slice A r.e.T c) (.slice A' r.e.n c')) by rw [hw1]; exact row_alloc_at _ _ _ _ rfl
  obtain ⟨w2, hw2⟩ : ∃ w2, w2 = w1.alloc (.cells #[.int .i64 0] 31) := ⟨_, rfl⟩
  have bw2 : Below w1.heap.size w1 w2 := by rw [hw2]; exact (Below.refl _ _).alloc (Nat.le_refl _) _
  have H1 := put1_rec r A A' c c' w.heap.size w2 ((ht.below bw ht.pos).below bw2 (Nat.lt_of_lt_of_le ht.pos bw.size)) (carry bw2 R1) ((hr.below bw).below bw2) hb
  have HC := Lib.hid (attb_any 23 #[.pointer (some ⟨w.heap.size, 0, none⟩)] w1 (entr (fn := Tryz.f23) (by kernel_rfl) (by kernel_rfl) (by kernel_rfl)) (fun v w' => pcE r = 0 ∧ Own w' w2.heap.size 5 v (pcL r) (pcF r)) (fun E => E = (pcE r : Nat)) (by rw [← hw2]; exact H1))
  have hs2 : w.heap.size ≤ w2.heap.size := Nat.le_trans bw.size bw2.size
  have hmf : ∀ (fn : Fn) (first cap : Array Value) (w : World), (Instr.makeFunc fn first cap).run Tryz.prog w = .ok (.func fn first cap) w := fun _ _ _ _ => rfl
  clear ht hr hb bw R1 bw2 H1 hw2
  go_enter Tryz.func9, Tryz.ntmps9
  go_upto_region 1 with fail
  simp only [← hw1]
  clear hw1
  go_wp2_with fail
  refine HC.out.mono ?_
  rintro e w3 ⟨hb3, ⟨v, rfl, hE, ho⟩ | ⟨E, hE, rfl, rfl⟩⟩
  · have B3 := onto B1.out B1.out.size hb3
    go_wp2_with fail
    exact bodyPost_ret (v := .tuple #[v, .int .i64 0]) (by simp [results, Tryz.results9, go_sem]) rfl (.inr ⟨hE, v, rfl, ho.base hs2, B3⟩)
  · have B3 := onto B1.out B1.out.size hb3
    have hE' : pcE r ≠ 0 := by omega
    go_wp2_with fail
    exact bodyPost_ret (v := .tuple #[.slice none 0 0, .int .i64 (pcE r : Nat)]) (by simp [results, Tryz.results9, go_sem]) rfl (.inl ⟨hE', rfl, B3⟩)
end Go.Proofs.YtdfcldomjjcidaaGreatDoor.Oct

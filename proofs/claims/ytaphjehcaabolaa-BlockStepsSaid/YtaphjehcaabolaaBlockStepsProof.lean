/- The statement BlockSteps: the law strongroomlaw03.BlockSteps answers true for every input, and leaves its arguments as they were. No further condition. -/
import Derived.Test.YtaphjehcaabolaaRows
import Derived.Test.YtaphjehcaabolaaOpen
import Derived.Test.YtaphjehcaabolaaBlkS
import Derived.Test.YtaphjehcaabolaaSlOpen
import Derived.Test.YtaphjehcaabolaaInv
namespace Go.Proofs.Ytaphjehcaabolaa.blockSteps
open Go.ChangeShapes Go.WideShapes Go.ChangeAt Go.RowKit
open Go.Proofs.Ytaphjehcaabolaa.Oct
set_option linter.unusedVariables false

theorem own : ownKnob Try.prog.godebug = none := by kernel_rfl
theorem laidOut : laidOutB Try.prog = true := by kernel_rfl

/-- the region of the second Hash, some of its operations done -/
structure St (W : World) (T u : TypeId) (Bl : Nat) (h f f' r : Bf) (m : Nat) (v8 : Value) (g : Nat → Bool) (x10 x30 x31 x32 x33 x34 x35 x36 : Value) (w : World) : Prop where
  b : Below W.heap.size W w
  f0 : g 0 = true → x30 = .agg (ba 16 h)
  f1 : g 1 = true → g 3 = false → Own w W.heap.size u x31 0 nF
  f2 : g 2 = true → x32 = v8
  f3 : g 3 = true → g 5 = false → Own w W.heap.size u x33 m f
  f4 : g 4 = true → x34 = .slice (some ⟨Bl, 0, none⟩) 16 16
  f5 : g 5 = true → g 6 = false → Own w W.heap.size u x35 (m + 16) f'
  f6 : g 6 = true → x36 = .agg (ba 16 r)
  f7 : g 7 = true → ∃ p, x10 = .pointer (some ⟨p, 0, none⟩) ∧ W.heap.size ≤ p ∧ w.heap[p]? = some (.cells (ba 16 (if g 8 then r else nF)) T (0, 0))
  c53 : g 5 = true → g 3 = true
  c65 : g 6 = true → g 5 = true
  c86 : g 8 = true → g 6 = true
  c87 : g 8 = true → g 7 = true
section
variable {W : World} {T u : TypeId} {Bl : Nat} {h f f' r : Bf} {m : Nat} {v8 : Value} {g : Nat → Bool} {x10 x30 x31 x32 x33 x34 x35 x36 : Value} {w w' : World}
theorem St.grow (s : St W T u Bl h f f' r m v8 g x10 x30 x31 x32 x33 x34 x35 x36 w) (hb : Below w.heap.size w w') : St W T u Bl h f f' r m v8 g x10 x30 x31 x32 x33 x34 x35 x36 w' :=
  ⟨onto s.b s.b.size hb, s.f0, fun a b => (s.f1 a b).below hb (Nat.le_refl _), s.f2, fun a b => (s.f3 a b).below hb (Nat.le_refl _), s.f4, fun a b => (s.f5 a b).below hb (Nat.le_refl _), s.f6,
    fun a => by
      obtain ⟨p, e, hp, hh⟩ := s.f7 a
      exact ⟨p, e, hp, by rw [hb.block p (Array.getElem?_eq_some_iff.1 hh).1]; exact hh⟩, s.c53, s.c65, s.c86, s.c87⟩
theorem St.d0 (s : St W T u Bl h f f' r m v8 g x10 x30 x31 x32 x33 x34 x35 x36 w) : St W T u Bl h f f' r m v8 (done g 0) x10 (.agg (ba 16 h)) x31 x32 x33 x34 x35 x36 w :=
  ⟨s.b, fun _ => rfl, s.f1, s.f2, s.f3, s.f4, s.f5, s.f6, s.f7, s.c53, s.c65, s.c86, s.c87⟩
theorem St.d1 (s : St W T u Bl h f f' r m v8 g x10 x30 x31 x32 x33 x34 x35 x36 w) {x : Value} (hx : Own w W.heap.size u x 0 nF) : St W T u Bl h f f' r m v8 (done g 1) x10 x30 x x32 x33 x34 x35 x36 w :=
  ⟨s.b, s.f0, fun _ _ => hx, s.f2, s.f3, s.f4, s.f5, s.f6, s.f7, s.c53, s.c65, s.c86, s.c87⟩
theorem St.d2 (s : St W T u Bl h f f' r m v8 g x10 x30 x31 x32 x33 x34 x35 x36 w) : St W T u Bl h f f' r m v8 (done g 2) x10 x30 x31 v8 x33 x34 x35 x36 w :=
  ⟨s.b, s.f0, s.f1, fun _ => rfl, s.f3, s.f4, s.f5, s.f6, s.f7, s.c53, s.c65, s.c86, s.c87⟩
theorem St.d4 (s : St W T u Bl h f f' r m v8 g x10 x30 x31 x32 x33 x34 x35 x36 w) : St W T u Bl h f f' r m v8 (done g 4) x10 x30 x31 x32 x33 (.slice (some ⟨Bl, 0, none⟩) 16 16) x35 x36 w :=
  ⟨s.b, s.f0, s.f1, s.f2, s.f3, fun _ => rfl, s.f5, s.f6, s.f7, s.c53, s.c65, s.c86, s.c87⟩
/-- an append to a row of the region's own leaves the new block as it is -/
theorem far {v : Value} {n : Nat} {q : Bf} (ho : Own w W.heap.size u v n q) (hg : w.grownBy w' v.ownBlock) {p : Nat} {c : Array Value} (hT : T ≠ u) (hh : w.heap[p]? = some (.cells c T (0, 0))) : w'.heap[p]? = some (.cells c T (0, 0)) := by
  rw [hg.block p (Array.getElem?_eq_some_iff.1 hh).1 (fun e => ?_)]
  · exact hh
  · unfold Own at ho
    rcases ho.2 with ⟨rfl, _⟩ | ⟨g', cap, cur, rfl, _, hh', _⟩
    · cases e
    · have : p = g' := by simpa [Value.ownBlock] using e
      subst this
      rw [hh] at hh'
      injection hh' with hh'
      injection hh' with _ ht
      exact hT ht
theorem St.d3 (s : St W T u Bl h f f' r m v8 g x10 x30 x31 x32 x33 x34 x35 x36 w) (hT : T ≠ u) (h3 : g 3 = false) (h1 : g 1 = true) (hg : w.grownBy w' x31.ownBlock) {x : Value} (hx : Own w' W.heap.size u x m f) :
    St W T u Bl h f f' r m v8 (done g 3) x10 x30 x31 x32 x x34 x35 x36 w' :=
  ⟨(s.f1 h1 h3).after hg s.b s.b.size (Nat.le_refl _), s.f0, fun _ b => by simp [done] at b, s.f2, fun _ _ => hx, s.f4,
    fun a _ => (by have := s.c53 (by simpa [done] using a); rw [h3] at this; cases this), s.f6,
    fun a => by
      obtain ⟨p, e, hp, hh⟩ := s.f7 (by simpa [done] using a)
      exact ⟨p, e, hp, far (s.f1 h1 h3) hg hT (by simpa [done] using hh)⟩, fun _ => by simp [done], s.c65, s.c86, s.c87⟩
theorem St.d5 (s : St W T u Bl h f f' r m v8 g x10 x30 x31 x32 x33 x34 x35 x36 w) (hT : T ≠ u) (h5 : g 5 = false) (h3 : g 3 = true) (hg : w.grownBy w' x33.ownBlock) {x : Value} (hx : Own w' W.heap.size u x (m + 16) f') :
    St W T u Bl h f f' r m v8 (done g 5) x10 x30 x31 x32 x33 x34 x x36 w' :=
  ⟨(s.f3 h3 h5).after hg s.b s.b.size (Nat.le_refl _), s.f0, fun _ b => (by rw [done_other g (by omega), h3] at b; cases b), s.f2, fun _ b => by simp [done] at b, s.f4,
    fun _ _ => hx, s.f6,
    fun a => by
      obtain ⟨p, e, hp, hh⟩ := s.f7 (by simpa [done] using a)
      exact ⟨p, e, hp, far (s.f3 h3 h5) hg hT (by simpa [done] using hh)⟩, fun _ => by rw [done_other g (by omega)]; exact h3, fun _ => by simp [done], s.c86, s.c87⟩
theorem St.d6 (s : St W T u Bl h f f' r m v8 g x10 x30 x31 x32 x33 x34 x35 x36 w) (h5 : g 5 = true) : St W T u Bl h f f' r m v8 (done g 6) x10 x30 x31 x32 x33 x34 x35 (.agg (ba 16 r)) w :=
  ⟨s.b, s.f0, s.f1, s.f2, s.f3, s.f4, fun _ b => by simp [done] at b, fun _ => rfl, s.f7, s.c53, fun _ => by rw [done_other g (by omega)]; exact h5, fun _ => by simp [done], s.c87⟩
theorem St.d7 (s : St W T u Bl h f f' r m v8 g x10 x30 x31 x32 x33 x34 x35 x36 w) (h7 : g 7 = false) {p : Nat} (hp : W.heap.size ≤ p) (hh : w.heap[p]? = some (.cells (ba 16 nF) T (0, 0))) :
    St W T u Bl h f f' r m v8 (done g 7) (.pointer (some ⟨p, 0, none⟩)) x30 x31 x32 x33 x34 x35 x36 w :=
  ⟨s.b, s.f0, s.f1, s.f2, s.f3, s.f4, s.f5, s.f6, fun _ => ⟨p, rfl, hp, (by
    have h8 : g 8 = false := by
      cases e : g 8 with
      | false => rfl
      | true => rw [s.c87 e] at h7; cases h7
    rw [done_other g (by omega), h8]; exact hh)⟩, s.c53, s.c65, s.c86, fun _ => by simp [done]⟩
theorem St.d8 {p : Nat} (s : St W T u Bl h f f' r m v8 g (.pointer (some ⟨p, 0, none⟩)) x30 x31 x32 x33 x34 x35 x36 w) (h7 : g 7 = true) (h6 : g 6 = true) (hp : W.heap.size ≤ p) (hh : w.heap[p]? = some (.cells (ba 16 nF) T (0, 0))) :
    St W T u Bl h f f' r m v8 (done g 8) (.pointer (some ⟨p, 0, none⟩)) x30 x31 x32 x33 x34 x35 x36 (w.setRow p (ba 16 r)) :=
  ⟨below_setRow s.b hp _, s.f0, fun _ b => (by rw [done_other g (by omega), s.c53 (s.c65 h6)] at b; cases b), s.f2, fun _ b => (by rw [done_other g (by omega), s.c65 h6] at b; cases b), s.f4,
    fun _ b => (by rw [done_other g (by omega), h6] at b; cases b), s.f6, fun _ => ⟨p, rfl, hp, by rw [done_same, if_pos rfl]; exact setRow_heap w p _ _ T _ hh⟩, s.c53, s.c65, fun _ => by rw [done_other g (by omega)]; exact h6, fun _ => by rw [done_other g (by omega)]; exact h7⟩
end
set_option maxRecDepth 20000 in
set_option maxHeartbeats 1500000 in
theorem walk (a0 : Nat → BitVec 8) (a1 : Nat → BitVec 8) (n1 c1 : Nat) (A1 : Option Addr) (a2 : Nat → BitVec 8) (w : World) (hs1 : Sl w w.heap.size A1 n1 c1 a1) (hm1 : c1 ≤ maxLen) :
    Calls Try.prog 6 #[.agg (ba 16 a0), .slice A1 n1 c1, .agg (ba 16 a2)] w fun e w' => e = .returned (.bool true) ∧ Below w.heap.size w w' := by
  have B0 := Lib.hid (((Below.refl w.heap.size w).alloc (by simp) (.cells (ba 16 a0) 23)).alloc (by simp) (.cells (ba 16 a2) 23))
  have HS0 := Lib.hid hs1
  unfold maxLen at hm1
  have hn1 : n1 ≤ c1 := hs1.le
  clear hs1
  go_enter Try.func6, Try.ntmps6
  go_wp2_with fail
  refine (shown_any _).mono ?_
  rintro e w1 ⟨rfl, hb1⟩
  have r0 := carry hb1 (b := w.heap.size) (c := ba 16 a0) (by simp [go_sem])
  have r1 := carry hb1 (b := w.heap.size + 1) (c := ba 16 a2) (by simp [go_sem])
  have s1 : w.heap.size + 2 ≤ w1.heap.size := by have := hb1.size; simp at this; omega
  have B1 := Lib.hid (onto B0.out (by simp; omega) hb1)
  clear hb1 B0
  have hcut : ∃ N, N ≤ 2000 ∧ N ≤ n1 ∧ ((2000 < n1 ∧ N = 2000) ∨ (n1 ≤ 2000 ∧ N = n1)) := ⟨min n1 2000, by omega, by omega, by omega⟩
  obtain ⟨N, hN, hNn, hcase⟩ := hcut
  have HS1 := Lib.hid ((HS0.out.below B1.out).upto N hNn)
  have HOE := Lib.hid (Own.empty w1 w1.heap.size 5 nF (Nat.le_refl _))
  have HSA := Lib.hid (HS1.out.below ((Below.refl w.heap.size w1).alloc (by omega) (.cells #[] 5)))
  rcases hcase with ⟨hlt, hN2⟩ | ⟨hlt, rfl⟩
  case' inl =>
    have hd : decide ((2000 : Int) < (n1 : Int)) = true := by simp; omega
    have hup := run_upto sli_u u8_i A1 n1 c1 N (by omega)
    rw [show ((N : Nat) : Int) = 2000 by omega] at hup
    clear hN2
  case' inr =>
    have hd : decide ((2000 : Int) < (N : Int)) = false := by simp; omega
  all_goals
    go_wp2_with (at_builtin; refine wpl_appB rfl (.tmp 17) (.tmp 18) rfl sli_u u8_info HOE.out HSA.out (by omega) (by simp) rfl rfl ?_; intro v' w2 ho hg ht)
    rw [catF_zero, Nat.zero_add] at ho
    have B2 := HOE.out.after hg ((Below.refl w1.heap.size w1).alloc (Nat.le_refl _) _) (by simp) (Nat.le_refl _)
    have HO2 := Lib.hid (ho.congr (f' := padF a1 N) fun i hi => by unfold padF; rw [if_pos hi])
    have HB2 := Lib.hid B2
    clear ho hg ht B2 hd
    go_loopw [8] (fun v wr => ∃ m : Nat, N ≤ m ∧ m ≤ 16 * ((N + 15) / 16) ∧ Own wr w1.heap.size 5 v m (padF a1 N) ∧ Below w1.heap.size w1 wr) (fun v _ => 2016 - slLen v)
    case atStart => exact ⟨N, by omega, by omega, HO2.out, HB2.out⟩
    case round =>
      clear HO2 HB2 HOE HSA
      obtain ⟨m, hNm, hm16, ho, hb⟩ := hrel
      obtain ⟨A8, c8, hv, hsl, hc8, -⟩ := ho.sl
      subst hv
      unfold maxLen at hc8
      have hmc := hsl.le
      have HO := Lib.hid ho
      have HB := Lib.hid hb
      have HSL := Lib.hid hsl
      clear ho hb hsl
      by_cases h16 : m % 16 = 0
      · have hd : ((m : Int) % 16 != 0) = false := by simp; omega
        have r0' := carry HB.out r0
        have r1' := carry HB.out r1
        clear r0 r1
        go_wp2_with fail
        refine (bhash_any a0 (padF a1 N) m c8 A8 _ HSL.out).mono ?_
        rintro e w4 ⟨rfl, hb4⟩
        clear hd
        go_wp2_with fail
        have s4 := hb4.size
        have HB4 := Lib.hid (onto HB.out (by have := HB.out.size; omega) hb4)
        have p0 := row_alloc (carry hb4 r0') (.cells (ba 16 (hshF a0 (padF a1 N) m)) 23)
        have p1 := row_alloc (carry hb4 r1') (.cells (ba 16 (hshF a0 (padF a1 N) m)) 23)
        have py : row (w4.alloc (.cells (ba 16 (hshF a0 (padF a1 N) m)) 23)) w4.heap.size = some (ba 16 (hshF a0 (padF a1 N) m)) := row_alloc_at _ _ _ _ rfl
        have HS5 := Lib.hid (((HSL.out.below hb4).below ((Below.refl _ w4).alloc s4 (.cells (ba 16 (hshF a0 (padF a1 N) m)) 23))).more (by simp; omega : wr.heap.size ≤ (w4.alloc (.cells (ba 16 (hshF a0 (padF a1 N) m)) 23)).heap.size))
        have HBW := Lib.hid (HB4.out.alloc (by have := HB.out.size; omega) (.cells (ba 16 (hshF a0 (padF a1 N) m)) 23))
        obtain ⟨y, hy⟩ : ∃ y, y = hshF a0 (padF a1 N) m := ⟨_, rfl⟩
        rw [← hy] at p0 p1 py HS5 HBW ⊢
        have HY := Lib.hid hy
        clear hy r0' r1'
        generalize w4.alloc (.cells (ba 16 y) 23) = W at p0 p1 py HS5 HBW ⊢
        generalize w4.heap.size = Y at py ⊢
        obtain ⟨F, hF⟩ : ∃ F, F = padF a1 N := ⟨_, rfl⟩
        obtain ⟨R, hR⟩ : ∃ R, R = hshF a0 (catF m F a2) (m + 16) := ⟨_, rfl⟩
        rw [← hF] at HS5
        have HF := Lib.hid hF
        have HR := Lib.hid hR
        clear hF hR
        first
          | (refine inv_region (fun _ g a w' => ∃ x10 x30 x31 x32 x33 x34 x35 x36 : Value, a = ⟨#[.agg (ba 16 a0), .slice A1 N c1, .agg (ba 16 a2), .pointer (some ⟨w.heap.size, 0, none⟩), undef, .pointer (some ⟨w.heap.size + 1, 0, none⟩), .bool false, .bool true, .slice A8 m c8, .pointer (some ⟨Y, 0, none⟩), x10, .bool true,
                        .slice A1 N c1, .int .i64 (N : Int), .bool false, undef, undef, .slice (some ⟨w1.heap.size, 0, none⟩) 0 0, .slice A1 N c1, v', .slice A8 m c8, .int .i64 (m : Int), .int .i64 ((m : Int) % 16), .bool false, u24, u25, u26, .agg (ba 16 a0), .slice A8 m c8, .agg (ba 16 y), x30, x31, x32, x33, x34, x35, x36,
                        undef, undef, undef, undef, undef, undef, undef, undef, undef, undef, undef, undef, undef, undef, undef, undef, undef], []⟩ ∧
                      St W 23 5 (w.heap.size + 1) a0 F (catF m F a2) R m (.slice A8 m c8) g x10 x30 x31 x32 x33 x34 x35 x36 w') (by kernel_rfl) (by kernel_rfl) ⟨undef, undef, undef, undef, undef, undef, undef, undef, rfl, below_drewN (Below.refl _ _) 1, fun h => (by cases h), fun h => (by cases h), fun h => (by cases h), fun h => (by cases h), fun h => (by cases h), fun h => (by cases h), fun h => (by cases h), fun h => (by cases h), fun h => (by cases h), fun h => (by cases h), fun h => (by cases h), fun h => (by cases h)⟩ ?step ?fin)
          | (refine inv_region (fun _ g a w' => ∃ x10 x30 x31 x32 x33 x34 x35 x36 : Value, a = ⟨#[.agg (ba 16 a0), .slice A1 N c1, .agg (ba 16 a2), .pointer (some ⟨w.heap.size, 0, none⟩), undef, .pointer (some ⟨w.heap.size + 1, 0, none⟩), .bool false, .bool true, .slice A8 m c8, .pointer (some ⟨Y, 0, none⟩), x10, .bool true,
                        .slice A1 n1 c1, .int .i64 (n1 : Int), .bool true, .slice A1 n1 c1, .slice A1 N c1, .slice (some ⟨w1.heap.size, 0, none⟩) 0 0, .slice A1 N c1, v', .slice A8 m c8, .int .i64 (m : Int), .int .i64 ((m : Int) % 16), .bool false, u24, u25, u26, .agg (ba 16 a0), .slice A8 m c8, .agg (ba 16 y), x30, x31, x32, x33, x34, x35, x36,
                        undef, undef, undef, undef, undef, undef, undef, undef, undef, undef, undef, undef, undef, undef, undef, undef, undef], []⟩ ∧
                      St W 23 5 (w.heap.size + 1) a0 F (catF m F a2) R m (.slice A8 m c8) g x10 x30 x31 x32 x33 x34 x35 x36 w') (by kernel_rfl) (by kernel_rfl) ⟨undef, undef, undef, undef, undef, undef, undef, undef, rfl, below_drewN (Below.refl _ _) 1, fun h => (by cases h), fun h => (by cases h), fun h => (by cases h), fun h => (by cases h), fun h => (by cases h), fun h => (by cases h), fun h => (by cases h), fun h => (by cases h), fun h => (by cases h), fun h => (by cases h), fun h => (by cases h), fun h => (by cases h)⟩ ?step ?fin)
        case step =>
          intro g a wq hI i o ho hgi hdep
          obtain ⟨x10, x30, x31, x32, x33, x34, x35, x36, rfl, st⟩ := hI
          have hi : i < 9 := (List.getElem?_eq_some_iff.1 ho).1
          have hcs : i = 0 ∨ i = 1 ∨ i = 2 ∨ i = 3 ∨ i = 4 ∨ i = 5 ∨ i = 6 ∨ i = 7 ∨ i = 8 := by omega
          have q0 := carry st.b p0
          have ST := Lib.hid st
          clear st hi
          rcases hcs with rfl | rfl | rfl | rfl | rfl | rfl | rfl | rfl | rfl
          · obtain rfl := Option.some.inj ho
            clear ho hdep
            go_wp2_with fail
            exact ⟨x10, _, x31, x32, x33, x34, x35, x36, rfl, ST.out.d0⟩
          · obtain rfl := Option.some.inj ho
            clear ho hdep q0
            go_wp2_with fail
            exact ⟨x10, x30, _, x32, x33, x34, x35, x36, rfl, (ST.out.grow ((Below.refl _ _).alloc (Nat.le_refl _) _)).d1 (Own.empty wq W.heap.size 5 nF ST.out.b.size)⟩
          · obtain rfl := Option.some.inj ho
            clear ho hdep q0
            go_wp2_with fail
            exact ⟨x10, x30, x31, _, x33, x34, x35, x36, rfl, ST.out.d2⟩
          · obtain rfl := Option.some.inj ho
            have d1 := hdep ⟨1, .data⟩ (by simp) rfl
            have d2 := hdep ⟨2, .data⟩ (by simp) rfl
            have e32 := ST.out.f2 d2
            subst e32
            have HOW := Lib.hid (ST.out.f1 d1 hgi)
            have HSS := Lib.hid (HS5.out.below ST.out.b)
            have hsz := ST.out.b.size
            clear ho hdep q0
            go_wp2_with (at_builtin; refine wpl_appB rfl (.tmp 31) (.tmp 32) rfl sli_u u8_info HOW.out HSS.out (by omega) hsz rfl rfl ?_; intro v6 w6 ho hg ht)
            rw [catF_zero, Nat.zero_add] at ho
            exact ⟨x10, x30, x31, _, v6, x34, x35, x36, rfl, ST.out.d3 (by decide) hgi d1 hg ho⟩
          · obtain rfl := Option.some.inj ho
            clear ho hdep q0
            go_wp2_with fail
            exact ⟨x10, x30, x31, x32, x33, _, x35, x36, rfl, ST.out.d4⟩
          · obtain rfl := Option.some.inj ho
            have d3 := hdep ⟨3, .data⟩ (by simp) rfl
            have d4 := hdep ⟨4, .data⟩ (by simp) rfl
            have e34 := ST.out.f4 d4
            subst e34
            have HOW := Lib.hid (ST.out.f3 d3 hgi)
            have HSS := Lib.hid (Sl.of_row (carry ST.out.b p1) wq.heap.size (row_lt (carry ST.out.b p1)))
            have hsz := ST.out.b.size
            clear ho hdep q0
            go_wp2_with (at_builtin; refine wpl_appB rfl (.tmp 33) (.tmp 34) rfl sli_u u8_info HOW.out HSS.out (by omega) hsz rfl rfl ?_; intro v6 w6 ho hg ht)
            exact ⟨x10, x30, x31, x32, x33, _, v6, x36, rfl, ST.out.d5 (by decide) hgi d3 hg ho⟩
          · obtain rfl := Option.some.inj ho
            have d0 := hdep ⟨0, .data⟩ (by simp) rfl
            have d5 := hdep ⟨5, .data⟩ (by simp) rfl
            have e30 := ST.out.f0 d0
            subst e30
            obtain ⟨A6, c6, hv6, hsl6, -, -⟩ := (ST.out.f5 d5 hgi).sl
            subst hv6
            have HSS := Lib.hid hsl6
            clear ho hdep q0 hsl6
            go_wp2_with fail
            refine (bhash_any a0 (catF m F a2) (m + 16) c6 A6 _ HSS.out).mono ?_
            rw [← HR.out]
            rintro e w6 ⟨rfl, hb6⟩
            have HG := Lib.hid (ST.out.grow hb6)
            clear hb6
            go_wp2_with fail
            exact ⟨x10, _, x31, x32, x33, x34, _, _, rfl, HG.out.d6 d5⟩
          · obtain rfl := Option.some.inj ho
            clear ho hdep q0
            go_wp2_with fail
            exact ⟨_, x30, x31, x32, x33, x34, x35, x36, rfl, (ST.out.grow ((Below.refl _ _).alloc (Nat.le_refl _) _)).d7 hgi ST.out.b.size (heap_alloc_new wq _)⟩
          · obtain rfl := Option.some.inj ho
            have d7 := hdep ⟨7, .data⟩ (by simp) rfl
            have d6 := hdep ⟨6, .data⟩ (by simp) rfl
            obtain ⟨p, e10, hp, hh⟩ := ST.out.f7 d7
            have e36 := ST.out.f6 d6
            subst e10
            subst e36
            rw [hgi, if_neg (by simp)] at hh
            have rp := row_of hh
            have HH := Lib.hid hh
            clear ho hdep q0 hh
            go_wp2_with fail
            exact ⟨_, x30, x31, x32, x33, x34, x35, _, rfl, ST.out.d8 d7 d6 hp HH.out⟩
        case fin =>
          intro g a wq hI hall
          obtain ⟨x10, x30, x31, x32, x33, x34, x35, x36, rfl, st⟩ := hI
          obtain ⟨p, e10, hp, hh⟩ := st.f7 (hall 7 (by simp))
          subst e10
          rw [hall 8 (by simp), if_pos rfl] at hh
          have rp := row_of hh
          have r0 := carry st.b p0
          have r1 := carry st.b p1
          have ry := carry st.b py
          have BF := Lib.hid (onto HBW.out (by have := HBW.out.size; omega) st.b)
          have HSB := Lib.hid (((HS1.out.below (BF.out.mono (by omega))).more (by have := BF.out.size; omega : w.heap.size ≤ wq.heap.size)))
          clear st hh hall
          have q0 := After.row r0
          have q1 := After.row r1
          have qy := After.row ry
          have qp := After.row rp
          clear r0 r1 ry rp p0 p1 py
          have e1 : eqB 16 y (hshF a0 a1 N) = true := by rw [HY.out, hsh_pad a0 a1 N m hNm hm16]; exact eqB_refl _ _
          have e2 : eqB 16 R (gmF (xorF y a2) a0) = true := by
            rw [HR.out, HY.out, HF.out, hsh_more a0 (padF a1 N) a2 m h16 (catF m (padF a1 N) a2) (fun i _ => rfl)]; exact eqB_refl _ _
          go_wp2_with fail
          refine seen_region (by kernel_rfl) (by kernel_rfl) ?_
          repeat (first | rw [e1] | rw [e2] | go_big_quiet_step ((first | (go_at_call 15; refine After.call _ (bhash_any a0 a1 N c1 A1 _ (After.sl HSB.out _))) | (go_at_call 13; refine After.call _ (bxor_any _ _ _)) | (go_at_call 11; refine After.call _ (bmul_any _ _ _)))))
          refine wpQuiet_nil ?_
          rintro _ ⟨x, rfl⟩
          have hfin := Lib.hid (onto B1.out (by omega) (onto BF.out (by have := BF.out.size; omega) x.below))
          clear q0 q1 qy qp e1 e2
          go_wp2
          go_ret
          exact ⟨rfl, hfin.out⟩
      · have hd : ((m : Int) % 16 != 0) = true := by simp; omega
        have HO3 := Lib.hid (HO.out.alloc (.cells #[.int .u8 (I 0#8)] 5))
        have HSR := Lib.hid (Sl.one wr 5 0#8 (wr.heap.size + 1) (by omega))
        have hbase : w1.heap.size ≤ (wr.alloc (.cells #[.int .u8 (I 0#8)] 5)).heap.size := by have := HB.out.size; simp; omega
        have HBB := Lib.hid hbase
        have hk47 : m + 1 ≤ 140737488355328 := by omega
        clear hbase
        go_wp2_with (at_builtin; refine wpl_appB rfl (.tmp 24) (.tmp 25) rfl sli_u u8_info HO3.out HSR.out hk47 HBB.out rfl rfl ?_; intro v' w3 ho hg ht)
        have HF := Lib.hid (ho.congr (f' := padF a1 N) fun i hi => by
          unfold catF padF
          by_cases h : i < m
          · rw [if_pos h]
          · rw [if_neg h, if_neg (by omega)])
        have HBF := Lib.hid (HO3.out.after hg (HB.out.alloc (by have := HB.out.size; omega) _) HBB.out (Nat.le_refl _))
        obtain ⟨A9, c9, hv9, -, -, -⟩ := ho.sl
        subst hv9
        clear ho hg ht hd
        go_roundw
        case rel => exact ⟨m + 1, by omega, by omega, HF.out, HBF.out⟩
        case measure => simp only [slLen]; omega

set_option maxRecDepth 100000 in
theorem lifted (os : Os) (started : os.Started) (H : Type) (enc : TypeId × Value → H) :
    ReturnsInHanded {} Try.checked os 6 .any (Rows.blockStepsSpec.pre6 enc Try.prog Try.f6 Rows.blockStepsRow.domain false) (Rows.blockStepsSpec.post enc Try.prog Try.f6 false true false false) := by
  refine returnsInHanded_of_change (C := Try.checked) own started (by kernel_rfl) Try.func6
    (ChangeSpec.witness6 (enc := enc) (C := Try.checked) false ⟨#[], #[.agg (Array.replicate 16 (.int .u8 0)), .slice none 0 0, .agg (Array.replicate 16 (.int .u8 0))], []⟩ 8 (by kernel_rfl) (by kernel_rfl) (by kernel_rfl) (by kernel_rfl)) ?_
  intro W base args ds gs before hval0 hW hcnd _
  have hval : ∀ (j : Nat) t v, Try.f6.params[j]? = some t → args[j]? = some v → Value.okWide Try.prog W .any base t v := hval0
  have hW' := hW
  obtain ⟨p, q, hA0, hV, rfl, hfz, hnd⟩ := hW
  have hA : DataW.TrodAll enc Try.prog W 0 (fun _ => true) true Try.f6.params.toList args.toList ds p := hA0
  rw [Try.params6] at hA hval
  obtain ⟨v0, vs0, d0, ds0, p0, q0, hargs, rfl, rfl, h0, r0⟩ := trodAll_cons hA
  obtain ⟨v1, vs1, d1, ds1, p1, q1, rfl, rfl, rfl, h1, r1⟩ := trodAll_cons r0
  obtain ⟨v2, vs2, d2, ds2, p2, q2, rfl, rfl, rfl, h2, r2⟩ := trodAll_cons r1
  obtain ⟨rfl, rfl, rfl⟩ := trodAll_nil r2
  obtain rfl : args = #[v0, v1, v2] := by cases args; simp_all
  obtain ⟨rfl, rfl⟩ := trodVars_none hV
  have k0 := h0
  have lt0 : ∀ x ∈ p0, x.block < W.heap.size := by obtain ⟨m, hm⟩ := k0; exact DataW.trod_lt m _ _ _ hm
  obtain ⟨a0, rfl⟩ := open_bytes Try.underlying23 Try.underlying5 (by kernel_rfl) (by kernel_rfl) (hval 0 23 v0 rfl rfl) h0
  have k1 := h1
  have lt1 : ∀ x ∈ p1, x.block < W.heap.size := by obtain ⟨m, hm⟩ := k1; exact DataW.trod_lt m _ _ _ hm
  obtain ⟨A1, n1, c1, a1, rfl, hs1, hm1⟩ := open_sl Try.underlying28 Try.underlying5 (by kernel_rfl) (hval 1 28 v1 rfl rfl) h1
  have k2 := h2
  have lt2 : ∀ x ∈ p2, x.block < W.heap.size := by obtain ⟨m, hm⟩ := k2; exact DataW.trod_lt m _ _ _ hm
  obtain ⟨a2, rfl⟩ := open_bytes Try.underlying23 Try.underlying5 (by kernel_rfl) (by kernel_rfl) (hval 2 23 v2 rfl rfl) h2
  clear hA0 hval0
  refine (walk a0 a1 n1 c1 A1 a2 W hs1 hm1).mono fun e W' ⟨he, bel⟩ => ?_
  subst he
  exact ⟨_, rfl, _, _, _, [], _, [], hW', trodAll_mk1 (shut_bool Try.underlying4 _), (trodAll_cons_mk (Below.trod laidOut (by kernel_rfl) (of_decide_eq_true (by kernel_rfl)) k0 bel lt0) (trodAll_cons_mk (Below.trod laidOut (by kernel_rfl) (of_decide_eq_true (by kernel_rfl)) k1 bel lt1) (trodAll_cons_mk (Below.trod laidOut (by kernel_rfl) (of_decide_eq_true (by kernel_rfl)) k2 bel lt2) trodAll_mk0))), rfl, bel.frame _, fun h => by cases h⟩

theorem over : Rows.blockStepsRow.holds Try.pinned (OpenSpec.ofChange Rows.blockStepsSpec) :=
  OpenClaim.holds_of_wide 6 Try.f6 rfl rfl rfl rfl rfl rfl rfl ⟨rfl, rfl, rfl, rfl, rfl⟩ rfl rfl rfl rfl rfl (by kernel_rfl) Try.func6 (by kernel_rfl)
    (of_decide_eq_true (by kernel_rfl)) (by unfold Func.isWrapper; first | (rw [if_pos (by decide +kernel)]; kernel_rfl) | (rw [if_neg (by decide +kernel)]; exact ⟨rfl, rfl⟩))
    (fun os started H enc _ => lifted os started H enc)

theorem proved : Rows.BlockStepsSaid := over
#print axioms proved
end Go.Proofs.Ytaphjehcaabolaa.blockSteps

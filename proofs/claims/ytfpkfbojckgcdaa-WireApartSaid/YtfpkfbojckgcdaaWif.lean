/- What the laws back, once and apart share: written, taken, compared; taken, written. -/
import Derived.Test.YtfpkfbojckgcdaaWie
namespace Go.Proofs.Ytfpkfbojckgcdaa.Oct
open Go.ChangeShapes Go.WideShapes Go.ChangeAt Go.RowKit
set_option linter.unusedVariables false

/- written, taken -/
theorem comL_le {k s q i n : Int} {T U : Nat} (h : chkE k s q i n T U = 0) : comL k s q i n T U ≤ 5000 := by
  obtain ⟨_, _, _, _, _, hT, hU⟩ := chk_ok h
  have h1 := nuL_le (comN k s q i n) 5
  have h2 := txL_le T
  have h3 := txL_le U
  unfold comL
  omega
theorem rep_zero {x n m : Int} {T : Nat} (h : repE x n m T = 0) : T ≤ 4096 := by
  have c1 : txE T = 0 := fi_each (E := th2 (nuE (repN x n m) 3) (txE T)) h 1 (by omega)
  unfold txE at c1
  split at c1
  · omega
  · omega
theorem repL_le {x n m : Int} {T : Nat} (h : repE x n m T = 0) : repL x n m T ≤ 5000 := by
  have hT := rep_zero h
  have h1 := nuL_le (repN x n m) 3
  have h2 := txL_le T
  unfold repL
  omega
theorem entL_le {t k : Int} {x : Nat → Int} {T n : Nat} (h : enE t k x T n = 0) : entL t k x T n ≤ 5000 := by
  obtain ⟨_, _, _, hT, hn⟩ := ent_ok h
  have h1 := nuL_le (th2 t k) 2
  have h2 := txL_le T
  have h3 := lsL_le (natS x) n n
  unfold entL
  omega
theorem comturn_any {k s q i n : Int} {T U c : Nat} {A : Option Addr} {d b : Bf} {w : World} (hc : chkE k s q i n T U = 0) (hb : ∀ j, -9223372036854775808 ≤ comN k s q i n j ∧ comN k s q i n j < 9223372036854775808)
    (hs : Sl w w.heap.size A (comL k s q i n T U) c (comF k s q i n T U d b)) :
    Calls Try.prog 13 #[.slice A (comL k s q i n T U) c] w fun e w' => ∃ A1 c1 A2 c2 d' b', e = .returned (.tuple #[comV k s q i n (.slice A1 T c1) (.slice A2 U c2), .int .i64 0]) ∧ Sl w' w'.heap.size A1 T c1 d' ∧ Sl w' w'.heap.size A2 U c2 b' ∧ comS k s q i n k s q i n T U T U d b d' b' = true ∧ Below w.heap.size w w' := by
  have hL := comL_le hc
  obtain ⟨h0, h1, h2, h3, h4, h5, h6, h7, h8, h9⟩ := back_com (d := d) (b := b) hc hb rfl (fun j _ => rfl)
  refine (takecom_any _ c A _ w hs (by omega)).mono ?_
  intro e w' h
  obtain ⟨A1, c1, A2, c2, he, s1, s2, hb'⟩ := h.ok h0
  rw [h1, h2, h3, h4, h5, h6, h7] at he
  rw [h6] at s1
  rw [h7] at s2
  refine ⟨A1, c1, A2, c2, _, _, he, s1, s2, ?_, hb'⟩
  unfold comS
  rw [teq_iff.2 ⟨rfl, fun j hj => (h8 j hj).symm⟩, teq_iff.2 ⟨rfl, fun j hj => (h9 j hj).symm⟩]
  simp
theorem repturn_any {x n m : Int} {T c : Nat} {A : Option Addr} {d r : Bf} {w : World} (hc : repE x n m T = 0) (hb : ∀ j, -9223372036854775808 ≤ repN x n m j ∧ repN x n m j < 9223372036854775808)
    (hs : Sl w w.heap.size A (repL x n m T + 3) c (catF (repL x n m T) (repF x n m T d) r)) :
    Calls Try.prog 20 #[.slice A (repL x n m T + 3) c] w fun e w' => ∃ A1 c1 A2 c2 d' r', e = .returned (.tuple #[repV x n m (.slice A1 T c1), .slice A2 3 c2, .int .i64 0]) ∧ Sl w' w'.heap.size A1 T c1 d' ∧ Sl w' w'.heap.size A2 3 c2 r' ∧ repS x n m x n m T T d d' = true ∧ strOf 3 r' = strOf 3 r ∧ Below w.heap.size w w' := by
  have hL := repL_le hc
  obtain ⟨h0, h1, h2, h3, h4, h5, h6⟩ := back_rep (d := d) (f := catF (repL x n m T) (repF x n m T d) r) (M := repL x n m T + 3) hc hb (by omega) (fun j hj => by unfold catF; rw [if_pos hj])
  refine (takerep_any _ c A _ w hs (by omega)).mono ?_
  intro e w' h
  rcases h with ⟨h', _⟩ | ⟨_, A1, c1, A2, c2, he, s1, s2, hb'⟩
  · exact absurd h0 h'
  rw [h1, h2, h3, h4, h6, show repL x n m T + 3 - repL x n m T = 3 by omega] at he
  rw [h4] at s1
  rw [h6, show repL x n m T + 3 - repL x n m T = 3 by omega] at s2
  refine ⟨A1, c1, A2, c2, _, _, he, s1, s2, ?_, str_behind _ _, hb'⟩
  unfold repS
  rw [teq_iff.2 ⟨rfl, fun j hj => (h5 j hj).symm⟩]
  simp
theorem entturn_any {t k : Int} {x : Nat → Int} {T n c : Nat} {A : Option Addr} {d : Bf} {w : World} (hc : enE t k x T n = 0) (hb : ∀ j, -9223372036854775808 ≤ th2 t k j ∧ th2 t k j < 9223372036854775808) (hx : ∀ i, i < n → -9223372036854775808 ≤ x i ∧ x i < 9223372036854775808)
    (hs : Sl w w.heap.size A (entL t k x T n) c (entF t k x T n d)) :
    Calls Try.prog 25 #[.slice A (entL t k x T n) c] w fun e w' => ∃ A1 c1 A2 c2 d' x', e = .returned (.tuple #[entV t k (.slice A1 T c1) (.slice A2 n c2), .int .i64 0]) ∧ Sl w' w'.heap.size A1 T c1 d' ∧ SlG w' w'.heap.size A2 n c2 (iV x') ∧ (∀ j, j < T → d j = d' j) ∧ (∀ j, j < n → x j = x' j) ∧ Below w.heap.size w w' := by
  have hL := entL_le hc
  obtain ⟨h0, h1, h2, h3, h4, h5, h6⟩ := back_ent (d := d) hc hb hx rfl (fun j _ => rfl)
  refine (takeent_any _ c A _ w hs (by omega)).mono ?_
  intro e w' h
  obtain ⟨A1, c1, A2, c2, he, s1, s2, hb'⟩ := h.ok h0
  rw [h1, h2, h3, h4] at he
  rw [h3] at s1
  rw [h4] at s2
  exact ⟨A1, c1, A2, c2, _, _, he, s1, s2, fun j hj => (h5 j hj).symm, fun j hj => (h6 j hj).symm, hb'⟩

/- taken, written -/
theorem comonce_any {N : Nat} {f : Bf} (hK : tcK N f) {A1 A2 : Option Addr} {c1 c2 : Nat} {w : World} (h1 : Sl w w.heap.size A1 (tcT f) c1 (tcF f)) (h2 : Sl w w.heap.size A2 (tcU f) c2 (tcG f)) :
    Calls Try.prog 11 #[comV (puX f 0 : Nat) (puX f 1 : Nat) (puX f 2 : Nat) (puX f 3 : Nat) (puX f 4 : Nat) (.slice A1 (tcT f) c1) (.slice A2 (tcU f) c2)] w fun e w' => ∃ v, e = .returned (.tuple #[v, .int .i64 0]) ∧ Cv w' v (strOf N f) ∧ Below w.heap.size w w' := by
  obtain ⟨k1, k2, k3⟩ := hK
  obtain ⟨l1, l2, l3⟩ := once_com k1
  have q0 : puE N f 5 = 0 := fi_each k1 0 (by omega)
  have hb : ∀ j, j < 5 → i64B ((puX f j : Nat) : Int) := fun j hj => by have := puX_lt q0 hj; exact ⟨by omega, by omega⟩
  refine (command_any _ _ _ _ _ _ _ c1 c2 A1 A2 _ _ w h1 h2 (comN_bd (hb 0 (by omega)) (hb 1 (by omega)) (hb 2 (by omega)) (hb 3 (by omega)) (hb 4 (by omega)))).mono ?_
  intro e w' h
  obtain ⟨v, he, ho, hb'⟩ := h.ok k3
  refine ⟨v, he, ?_, hb'⟩
  have hc := Cv.own ho
  rw [l1, str_congr l2, show tcO f 3 = N by omega] at hc
  exact hc
theorem entonce_any {N : Nat} {f : Bf} (hK : teK N f) {A1 A2 : Option Addr} {c1 c2 : Nat} {w : World} (h1 : Sl w w.heap.size A1 (teT f) c1 (teF f)) (h2 : SlG w w.heap.size A2 (teM f) c2 (iV (teX f))) :
    Calls Try.prog 23 #[entV (puX f 0 : Nat) (puX f 1 : Nat) (.slice A1 (teT f) c1) (.slice A2 (teM f) c2)] w fun e w' => ∃ v, e = .returned (.tuple #[v, .int .i64 0]) ∧ Cv w' v (strOf N f) ∧ Below w.heap.size w w' := by
  have hM := teK_len hK
  obtain ⟨k1, k2, k3⟩ := hK
  obtain ⟨l1, l2, l3⟩ := once_ent k1
  have q0 : puE N f 2 = 0 := fi_each k1 0 (by omega)
  have q2 : tllE (N - teO f 2) 7 (offF f (teO f 2)) = 0 := fi_each k1 2 (by omega)
  have hb : ∀ j, j < 2 → i64B ((puX f j : Nat) : Int) := fun j hj => by have := puX_lt q0 hj; exact ⟨by omega, by omega⟩
  have hx : ∀ i, i < teM f → -9223372036854775808 ≤ teX f i ∧ teX f i < 9223372036854775808 := fun i hi => by
    have := tlX_lt _ (tll_ok q2).2.2 i hi
    unfold teX
    omega
  refine (entry_any _ _ _ _ _ c1 c2 A1 A2 _ w h1 h2 (th2_bd (hb 0 (by omega)) (hb 1 (by omega))) hx (by omega)).mono ?_
  intro e w' h
  obtain ⟨v, he, ho, hb'⟩ := h.ok k3
  refine ⟨v, he, ?_, hb'⟩
  have hc := Cv.own ho
  rw [l1, str_congr l2, show teO f 3 = N by omega] at hc
  exact hc
theorem reponce_any {N : Nat} {f : Bf} (hK : trE N f = 0) {A1 : Option Addr} {c1 : Nat} {w : World} (h1 : Sl w w.heap.size A1 (trT f) c1 (trF f)) :
    Calls Try.prog 18 #[repV (puX f 0 : Nat) (puX f 1 : Nat) (puX f 2 : Nat) (.slice A1 (trT f) c1)] w fun e w' => ∃ v, e = .returned (.tuple #[v, .int .i64 0]) ∧ Cv w' v (strOf (trO f 2) f) ∧ Below w.heap.size w w' := by
  obtain ⟨l1, l2, l3⟩ := once_rep hK
  have q0 : puE N f 3 = 0 := fi_each (E := trS N f) hK 0 (by omega)
  have q1 : ttE (N - trO f 1) 4096 (offF f (trO f 1)) = 0 := fi_each (E := trS N f) hK 1 (by omega)
  have hb : ∀ j, j < 3 → i64B ((puX f j : Nat) : Int) := fun j hj => by have := puX_lt q0 hj; exact ⟨by omega, by omega⟩
  have hT := (tt_le q1).2.1
  have hE : repE (puX f 0 : Nat) (puX f 1 : Nat) (puX f 2 : Nat) (trT f) = 0 := by
    unfold repE
    refine fi_zero fun j hj => ?_
    have : j = 0 ∨ j = 1 := by omega
    rcases this with rfl | rfl
    · exact nuE_of_pos fun i hi => by
        have : i = 0 ∨ i = 1 ∨ i = 2 := by omega
        rcases this with rfl | rfl | rfl <;> exact Int.natCast_nonneg _
    · show txE (trT f) = 0
      unfold txE trT
      rw [if_neg (by omega)]
  refine (reply_any _ _ _ _ c1 A1 _ w h1 (repN_bd (hb 0 (by omega)) (hb 1 (by omega)) (hb 2 (by omega)))).mono ?_
  intro e w' h
  obtain ⟨v, he, hc, hb'⟩ := h.uni
  rw [hE] at he hc
  refine ⟨v, he, ?_, hb'⟩
  unfold wrS at hc
  rw [if_pos rfl, l1, str_congr l2] at hc
  exact hc
theorem rep_parts {N : Nat} {f : Bf} (hK : trE N f = 0) : strOf (trO f 2) f ++ strOf (N - trO f 2) (offF f (trO f 2)) = strOf N f :=
  str_split (once_rep hK).2.2 fun _ _ => rfl

/- apart -/
theorem bytes_of_list {a b : ByteArray} (h : a.toList = b.toList) : a = b := by
  rw [ByteArray.toList_eq, ByteArray.toList_eq] at h
  cases a
  cases b
  simp_all
theorem com_apart {k s q i n k' s' q' i' n' : Int} {T U T' U' : Nat} {d b d' b' : Bf} (h : chkE k s q i n T U = 0) (h' : chkE k' s' q' i' n' T' U' = 0)
    (hb : ∀ j, -9223372036854775808 ≤ comN k s q i n j ∧ comN k s q i n j < 9223372036854775808) (hb' : ∀ j, -9223372036854775808 ≤ comN k' s' q' i' n' j ∧ comN k' s' q' i' n' j < 9223372036854775808) :
    ((strOf (comL k s q i n T U) (comF k s q i n T U d b)).toList == (strOf (comL k' s' q' i' n' T' U') (comF k' s' q' i' n' T' U' d' b')).toList) = comS k s q i n k' s' q' i' n' T U T' U' d b d' b' := by
  by_cases e : strOf (comL k s q i n T U) (comF k s q i n T U d b) = strOf (comL k' s' q' i' n' T' U') (comF k' s' q' i' n' T' U' d' b')
  · have eL : comL k s q i n T U = comL k' s' q' i' n' T' U' := by
      have := congrArg ByteArray.size e
      rw [str_size, str_size] at this
      exact this
    have eF := str_inj (e.trans (by rw [eL]))
    obtain ⟨_, a0, a1, a2, a3, a4, a5, a6, a7, a8⟩ := back_com (d := d) (b := b) h hb rfl (fun j _ => rfl)
    obtain ⟨_, b0, b1, b2, b3, b4, b5, b6, b7, b8⟩ := back_com (d := d') (b := b') (f := comF k s q i n T U d b) h' hb' eL.symm eF
    have hS : comS k s q i n k' s' q' i' n' T U T' U' d b d' b' = true := by
      unfold comS
      rw [teq_iff.2 ⟨a5.symm.trans b5, fun j hj => (a7 j hj).symm.trans (b7 j (by omega))⟩, teq_iff.2 ⟨a6.symm.trans b6, fun j hj => (a8 j hj).symm.trans (b8 j (by omega))⟩,
        beq_iff_eq.2 (a0.symm.trans b0), beq_iff_eq.2 (a1.symm.trans b1), beq_iff_eq.2 (a2.symm.trans b2), beq_iff_eq.2 (a3.symm.trans b3), beq_iff_eq.2 (a4.symm.trans b4)]
      rfl
    rw [hS, e, beq_self_eq_true]
  · have hS : comS k s q i n k' s' q' i' n' T U T' U' d b d' b' = false := by
      cases hS : comS k s q i n k' s' q' i' n' T U T' U' d b d' b' with
      | false => rfl
      | true =>
        refine absurd ?_ e
        unfold comS at hS
        simp only [Bool.and_eq_true, beq_iff_eq, teq_iff] at hS
        obtain ⟨rfl, rfl, rfl, rfl, rfl, ⟨rfl, h1⟩, rfl, h2⟩ := hS
        refine str_congr fun j hj => ?_
        unfold comL at hj
        unfold comF catF
        split
        · split
          · rfl
          · unfold txF catF
            split
            · rfl
            · exact h1 _ (by unfold txL at *; omega)
        · unfold txF catF
          split
          · rfl
          · exact h2 _ (by unfold txL at *; omega)
    rw [hS]
    exact beq_eq_false_iff_ne.2 fun h => e (bytes_of_list h)

/- one form, for the walks -/
theorem s3_lit : (#[.int .u8 1, .int .u8 2, .int .u8 3] : Array Value) = ba 3 (litF [1#8, 2#8, 3#8]) := by unfold ba; kernel_rfl
theorem s3_str : strOf 3 (litF [1#8, 2#8, 3#8]) = ⟨#[1, 2, 3]⟩ := str_lit (l := [1, 2, 3]) (by decide +kernel)
theorem tcP.two {N : Nat} {f : Bf} {w : World} {e : Ending} {w' : World} (h : tcP N f w e w') : ∃ (k s q i m : Int) (T U c c' E : Nat) (A A' : Option Addr), e = .returned (.tuple #[comV k s q i m (.slice A T c) (.slice A' U c'), .int .i64 (E : Nat)]) ∧ Below w.heap.size w w' ∧
    (E = 0 → ∀ y, Below w'.heap.size w' y → Calls Try.prog 11 #[comV k s q i m (.slice A T c) (.slice A' U c')] y fun e y' => ∃ v, e = .returned (.tuple #[v, .int .i64 0]) ∧ Cv y' v (strOf N f) ∧ Below y.heap.size y y') := by
  by_cases hk : tcK N f
  · obtain ⟨A, c, A', c', he, h1, h2, hb⟩ := h.ok hk
    exact ⟨_, _, _, _, _, _, _, c, c', 0, A, A', he, hb, fun _ y hy => comonce_any hk ((h1.below hy).more hy.size) ((h2.below hy).more hy.size)⟩
  · obtain ⟨he, hb⟩ := h.bad hk
    exact ⟨_, _, _, _, _, _, _, 0, 0, 80, none, none, he, hb, fun h => by omega⟩
theorem teP.two {N : Nat} {f : Bf} {w : World} {e : Ending} {w' : World} (h : teP N f w e w') : ∃ (t k : Int) (T M c c' E : Nat) (A A' : Option Addr), e = .returned (.tuple #[entV t k (.slice A T c) (.slice A' M c'), .int .i64 (E : Nat)]) ∧ Below w.heap.size w w' ∧
    (E = 0 → ∀ y, Below w'.heap.size w' y → Calls Try.prog 23 #[entV t k (.slice A T c) (.slice A' M c')] y fun e y' => ∃ v, e = .returned (.tuple #[v, .int .i64 0]) ∧ Cv y' v (strOf N f) ∧ Below y.heap.size y y') := by
  by_cases hk : teK N f
  · obtain ⟨A, c, A', c', he, h1, h2, hb⟩ := h.ok hk
    exact ⟨_, _, _, _, c, c', 0, A, A', he, hb, fun _ y hy => entonce_any hk ((h1.below hy).more hy.size) ((h2.below hy).more hy.size)⟩
  · obtain ⟨he, hb⟩ := h.bad hk
    exact ⟨_, _, _, _, 0, 0, 80, none, none, he, hb, fun h => by omega⟩
theorem trP.two {N : Nat} {f : Bf} {w : World} {e : Ending} {w' : World} (h : trP N f w e w') : ∃ (x n m : Int) (T M c c' E : Nat) (A A' : Option Addr) (S R : ByteArray), e = .returned (.tuple #[repV x n m (.slice A T c), .slice A' M c', .int .i64 (E : Nat)]) ∧ Below w.heap.size w w' ∧ Cv w' (.slice A' M c') R ∧
    (E = 0 → S ++ R = strOf N f ∧ ∀ y, Below w'.heap.size w' y → Calls Try.prog 18 #[repV x n m (.slice A T c)] y fun e y' => ∃ v, e = .returned (.tuple #[v, .int .i64 0]) ∧ Cv y' v S ∧ Below y.heap.size y y') := by
  by_cases hk : trE N f = 0
  · rcases h with ⟨h', _⟩ | ⟨_, A, c, A', c', he, h1, h2, hb⟩
    · exact absurd hk h'
    exact ⟨_, _, _, _, _, c, c', 0, A, A', strOf (trO f 2) f, strOf (N - trO f 2) (offF f (trO f 2)), he, hb, Cv.sl h2, fun _ => ⟨rep_parts hk, fun y hy => reponce_any hk ((h1.below hy).more hy.size)⟩⟩
  · rcases h with ⟨_, he, hb⟩ | ⟨h', _⟩
    · exact ⟨_, _, _, _, _, 0, 0, trE N f, none, none, ⟨#[]⟩, strOf 0 nF, he, hb, Cv.nil _, fun h => absurd h hk⟩
    · exact absurd h' hk
theorem combk_any {k s q i n : Int} {T U c c' : Nat} {A A' : Option Addr} {d b : Bf} {w : World} (hb : ∀ j, -9223372036854775808 ≤ comN k s q i n j ∧ comN k s q i n j < 9223372036854775808) (h1 : Sl w w.heap.size A T c d) (h2 : Sl w w.heap.size A' U c' b) :
    ∃ E : Nat, Calls Try.prog 11 #[comV k s q i n (.slice A T c) (.slice A' U c')] w fun e w' => ∃ v, e = .returned (.tuple #[v, .int .i64 (E : Nat)]) ∧ Below w.heap.size w w' ∧
      (E = 0 → Calls Try.prog 13 #[v] w' fun e w'' => ∃ A1 c1 A2 c2 d' b', e = .returned (.tuple #[comV k s q i n (.slice A1 T c1) (.slice A2 U c2), .int .i64 0]) ∧ Sl w'' w''.heap.size A1 T c1 d' ∧ Sl w'' w''.heap.size A2 U c2 b' ∧ comS k s q i n k s q i n T U T U d b d' b' = true ∧ Below w'.heap.size w' w'') := by
  refine ⟨chkE k s q i n T U, (command_any k s q i n T U c c' A A' d b w h1 h2 hb).mono ?_⟩
  intro e w' h
  rcases h with ⟨h0, h1, h2⟩ | ⟨h0, v, h1, ho, h3⟩
  · exact ⟨_, h1, h2, fun h => absurd h h0⟩
  · refine ⟨v, by rw [h0]; exact h1, h3, fun _ => ?_⟩
    obtain ⟨A1, c1, rfl, hs, -, -⟩ := ho.sl
    exact comturn_any h0 hb hs
theorem repbk_any {x n m : Int} {T c : Nat} {A : Option Addr} {d : Bf} {w : World} (hb : ∀ j, -9223372036854775808 ≤ repN x n m j ∧ repN x n m j < 9223372036854775808) (h1 : Sl w w.heap.size A T c d) :
    ∃ E L : Nat, ∃ F : Bf, (Calls Try.prog 18 #[repV x n m (.slice A T c)] w fun e w' => ∃ v, e = .returned (.tuple #[v, .int .i64 (E : Nat)]) ∧ Below w.heap.size w w' ∧ (E = 0 → Own w' w.heap.size 5 v L F)) ∧
      (E = 0 → L ≤ 5000 ∧ ∀ y A c r, Sl y y.heap.size A (L + 3) c (catF L F r) → Calls Try.prog 20 #[.slice A (L + 3) c] y fun e w' => ∃ A1 c1 A2 c2 d' r', e = .returned (.tuple #[repV x n m (.slice A1 T c1), .slice A2 3 c2, .int .i64 0]) ∧ Sl w' w'.heap.size A1 T c1 d' ∧ Sl w' w'.heap.size A2 3 c2 r' ∧ repS x n m x n m T T d d' = true ∧ strOf 3 r' = strOf 3 r ∧ Below y.heap.size y w') := by
  refine ⟨repE x n m T, repL x n m T, repF x n m T d, (reply_any x n m T c A d w h1 hb).mono ?_, fun h0 => ⟨repL_le h0, fun y A c r hs => repturn_any h0 hb hs⟩⟩
  intro e w' h
  rcases h with ⟨h0, h1, h2⟩ | ⟨h0, v, h1, ho, h3⟩
  · exact ⟨_, h1, h2, fun h => absurd h h0⟩
  · rw [Nat.zero_add, catF_zero] at ho
    exact ⟨v, by rw [h0]; exact h1, h3, fun _ => ho⟩
theorem entbk_any {t k : Int} {x : Nat → Int} {T n c c' : Nat} {A A' : Option Addr} {d : Bf} {w : World} (hb : ∀ j, -9223372036854775808 ≤ th2 t k j ∧ th2 t k j < 9223372036854775808) (hx : ∀ i, i < n → -9223372036854775808 ≤ x i ∧ x i < 9223372036854775808) (hn : n ≤ 9223372036854775807) (h1 : Sl w w.heap.size A T c d) (h2 : SlG w w.heap.size A' n c' (iV x)) :
    ∃ E : Nat, (E = 0 → n ≤ 7) ∧ Calls Try.prog 23 #[entV t k (.slice A T c) (.slice A' n c')] w fun e w' => ∃ v, e = .returned (.tuple #[v, .int .i64 (E : Nat)]) ∧ Below w.heap.size w w' ∧
      (E = 0 → Calls Try.prog 25 #[v] w' fun e w'' => ∃ A1 c1 A2 c2 d' x', e = .returned (.tuple #[entV t k (.slice A1 T c1) (.slice A2 n c2), .int .i64 0]) ∧ Sl w'' w''.heap.size A1 T c1 d' ∧ SlG w'' w''.heap.size A2 n c2 (iV x') ∧ (∀ j, j < T → d j = d' j) ∧ (∀ j, j < n → x j = x' j) ∧ Below w'.heap.size w' w'') := by
  refine ⟨enE t k x T n, fun h => (ent_ok h).2.2.2.2, (entry_any t k x T n c c' A A' d w h1 h2 hb hx hn).mono ?_⟩
  intro e w' h
  rcases h with ⟨h0, h1, h2⟩ | ⟨h0, v, h1, ho, h3⟩
  · exact ⟨_, h1, h2, fun h => absurd h h0⟩
  · refine ⟨v, by rw [h0]; exact h1, h3, fun _ => ?_⟩
    obtain ⟨A1, c1, rfl, hs, -, -⟩ := ho.sl
    exact entturn_any h0 hb hx hs
end Go.Proofs.Ytfpkfbojckgcdaa.Oct

/- What is written is read as it was, and what is read is written as it was: commands, replies, entries. -/
import Derived.Test.YtfpkfbojckgcdaaWiX
namespace Go.Proofs.Ytfpkfbojckgcdaa.Oct
open Go.ChangeShapes Go.WideShapes Go.ChangeAt Go.RowKit
set_option linter.unusedVariables false

theorem cuL_congr {L L' : Nat → Nat} : ∀ {j : Nat}, (∀ i, i < j → L i = L' i) → cuL L j = cuL L' j
  | 0, _ => rfl
  | j + 1, h => by simp only [cuL]; rw [cuL_congr (j := j) fun i hi => h i (by omega), h j (by omega)]
theorem cuF_congr {L L' : Nat → Nat} {F F' : Nat → Bf} : ∀ {j : Nat}, (∀ i, i < j → L i = L' i) → (∀ i, i < j → F i = F' i) → cuF L F j = cuF L' F' j
  | 0, _, _ => rfl
  | j + 1, h, h' => by simp only [cuF]; rw [cuL_congr (j := j) fun i hi => h i (by omega), cuF_congr (j := j) (fun i hi => h i (by omega)) (fun i hi => h' i (by omega)), h' j (by omega)]
theorem nuL_congr {x y : Nat → Int} {j : Nat} (h : ∀ i, i < j → x i = y i) : nuL x j = nuL y j := cuL_congr fun i hi => by rw [h i hi]
theorem nuF_congr {x y : Nat → Int} {j : Nat} (h : ∀ i, i < j → x i = y i) : nuF x j = nuF y j := cuF_congr (fun i hi => by rw [h i hi]) (fun i hi => by rw [h i hi])
theorem cat_pre {a b : Nat} {F G f : Bf} (h1 : ∀ i, i < a → F i = f i) (h2 : ∀ i, i < b → G i = offF f a i) : ∀ i, i < a + b → catF a F G i = f i := fun i hi => by
  unfold catF
  by_cases h : i < a
  · rw [if_pos h, h1 i h]
  · rw [if_neg h, h2 (i - a) (by omega)]
    unfold offF
    rw [show a + (i - a) = i by omega]
/- what is read, written -/
theorem once_nu {n : Nat} {f : Bf} : ∀ j, puE n f j = 0 → nuL (fun i => (puX f i : Nat)) j = puO f j ∧ ∀ i, i < puO f j → nuF (fun i => (puX f i : Nat)) j i = f i
  | 0, _ => ⟨rfl, fun i hi => by simp [puO] at hi⟩
  | j + 1, h => by
    obtain ⟨e1, e2⟩ := once_nu j (fi_all h j (by omega))
    obtain ⟨e3, e4⟩ := enc_tk (n := n - puO f j) (f := offF f (puO f j)) (fi_each h j (by omega))
    have k1 : nuL (fun i => (puX f i : Nat)) (j + 1) = puO f j + tkL (offF f (puO f j)) := by
      show cuL _ j + encL ((puX f j : Nat) : Int).toNat = _
      rw [show cuL (fun i => encL ((fun i => ((puX f i : Nat) : Int)) i).toNat) j = puO f j from e1, Int.toNat_natCast]
      exact congrArg (puO f j + ·) e3
    refine ⟨k1, ?_⟩
    show ∀ i, i < puO f j + tkL (offF f (puO f j)) → catF (cuL _ j) (cuF _ _ j) (encF ((puX f j : Nat) : Int).toNat) i = f i
    rw [show cuL (fun i => encL ((fun i => ((puX f i : Nat) : Int)) i).toNat) j = puO f j from e1, Int.toNat_natCast]
    exact cat_pre e2 fun i hi => e4 i hi
theorem once_tx {n : Nat} {m : Int} {f : Bf} (h : ttE n m f = 0) : txL (tkV f) = tkL f + tkV f ∧ ∀ i, i < tkL f + tkV f → txF (tkV f) (offF f (tkL f)) i = f i := by
  obtain ⟨h0, _, _⟩ := tt_le h
  obtain ⟨e3, e4⟩ := enc_tk h0
  refine ⟨by unfold txL; rw [e3], ?_⟩
  unfold txF
  rw [e3]
  exact cat_pre e4 fun i hi => rfl
theorem once_ls' {n : Nat} {m : Int} {f : Bf} (h : tllE n m f = 0) : lsL (natS fun i => (tlX f i : Nat)) (tkV f) (tkV f) = tlO f (tkV f) ∧ ∀ i, i < tlO f (tkV f) → lsF (natS fun i => (tlX f i : Nat)) (tkV f) (tkV f) i = f i := by
  obtain ⟨h0, _, h2⟩ := tll_ok h
  have e : (natS fun i => ((tlX f i : Nat) : Int)) = tlX f := by funext i; unfold natS; exact Int.toNat_natCast _
  rw [e]
  exact once_ls h0 (tkV f) h2
/-- the five numbers as they were read -/
theorem comN_pu (f : Bf) (j : Nat) (hj : j < 5) : comN (puX f 0 : Nat) (puX f 1 : Nat) (puX f 2 : Nat) (puX f 3 : Nat) (puX f 4 : Nat) j = (puX f j : Nat) := by
  have : j = 0 ∨ j = 1 ∨ j = 2 ∨ j = 3 ∨ j = 4 := by omega
  rcases this with rfl | rfl | rfl | rfl | rfl <;> rfl
theorem repN_pu (f : Bf) (j : Nat) (hj : j < 3) : repN (puX f 0 : Nat) (puX f 1 : Nat) (puX f 2 : Nat) j = (puX f j : Nat) := by
  have : j = 0 ∨ j = 1 ∨ j = 2 := by omega
  rcases this with rfl | rfl | rfl <;> rfl
theorem entN_pu (f : Bf) (j : Nat) (hj : j < 2) : th2 ((puX f 0 : Nat) : Int) (puX f 1 : Nat) j = (puX f j : Nat) := by
  have : j = 0 ∨ j = 1 := by omega
  rcases this with rfl | rfl <;> rfl
theorem once_com {n : Nat} {f : Bf} (h : fiE (tcS n f) 3 = 0) : comL (puX f 0 : Nat) (puX f 1 : Nat) (puX f 2 : Nat) (puX f 3 : Nat) (puX f 4 : Nat) (tcT f) (tcU f) = tcO f 3 ∧
    (∀ i, i < tcO f 3 → comF (puX f 0 : Nat) (puX f 1 : Nat) (puX f 2 : Nat) (puX f 3 : Nat) (puX f 4 : Nat) (tcT f) (tcU f) (tcF f) (tcG f) i = f i) ∧ tcO f 3 ≤ n := by
  have q0 : puE n f 5 = 0 := fi_each h 0 (by omega)
  have q1 : ttE (n - tcO f 1) 4096 (offF f (tcO f 1)) = 0 := fi_each h 1 (by omega)
  have q2 : ttE (n - tcO f 2) 4096 (offF f (tcO f 2)) = 0 := fi_each h 2 (by omega)
  obtain ⟨a1, a2⟩ := once_nu 5 q0
  obtain ⟨b1, b2⟩ := once_tx q1
  obtain ⟨c1, c2⟩ := once_tx q2
  have l0 := puO_le 5 q0
  have l1 := (tt_le q1).2.2
  have l2 := (tt_le q2).2.2
  rw [← nuL_congr fun j hj => comN_pu f j hj] at a1
  rw [← nuF_congr fun j hj => comN_pu f j hj] at a2
  have o1 : tcO f 1 = puO f 5 := rfl
  have o2 : tcO f 2 = tcO f 1 + (tkL (offF f (tcO f 1)) + tkV (offF f (tcO f 1))) := rfl
  have o3 : tcO f 3 = tcO f 2 + (tkL (offF f (tcO f 2)) + tkV (offF f (tcO f 2))) := rfl
  rw [offF_offF] at b2 c2
  have e2 := cat_pre (F := nuF (comN (puX f 0 : Nat) (puX f 1 : Nat) (puX f 2 : Nat) (puX f 3 : Nat) (puX f 4 : Nat)) 5) a2 (fun i hi => b2 i hi)
  have e3 := cat_pre e2 (fun i hi => c2 i hi)
  unfold comL comF tcT tcU tcF tcG
  rw [a1, b1, c1]
  refine ⟨by omega, ?_, by omega⟩
  intro i hi
  exact e3 i (by omega)
theorem once_rep {n : Nat} {f : Bf} (h : trE n f = 0) : repL (puX f 0 : Nat) (puX f 1 : Nat) (puX f 2 : Nat) (trT f) = trO f 2 ∧
    (∀ i, i < trO f 2 → repF (puX f 0 : Nat) (puX f 1 : Nat) (puX f 2 : Nat) (trT f) (trF f) i = f i) ∧ trO f 2 ≤ n := by
  have q0 : puE n f 3 = 0 := fi_each h 0 (by omega)
  have q1 : ttE (n - trO f 1) 4096 (offF f (trO f 1)) = 0 := fi_each h 1 (by omega)
  obtain ⟨a1, a2⟩ := once_nu 3 q0
  obtain ⟨b1, b2⟩ := once_tx q1
  have l0 := puO_le 3 q0
  have l1 := (tt_le q1).2.2
  rw [← nuL_congr fun j hj => repN_pu f j hj] at a1
  rw [← nuF_congr fun j hj => repN_pu f j hj] at a2
  have o1 : trO f 1 = puO f 3 := rfl
  have o2 : trO f 2 = trO f 1 + (tkL (offF f (trO f 1)) + tkV (offF f (trO f 1))) := rfl
  rw [offF_offF] at b2
  have e2 := cat_pre (F := nuF (repN (puX f 0 : Nat) (puX f 1 : Nat) (puX f 2 : Nat)) 3) a2 (fun i hi => b2 i hi)
  unfold repL repF trT trF
  rw [a1, b1]
  refine ⟨by omega, ?_, by omega⟩
  intro i hi
  exact e2 i (by omega)
theorem once_ent {n : Nat} {f : Bf} (h : fiE (teS n f) 3 = 0) : entL (puX f 0 : Nat) (puX f 1 : Nat) (teX f) (teT f) (teM f) = teO f 3 ∧
    (∀ i, i < teO f 3 → entF (puX f 0 : Nat) (puX f 1 : Nat) (teX f) (teT f) (teM f) (teF f) i = f i) ∧ teO f 3 ≤ n := by
  have q0 : puE n f 2 = 0 := fi_each h 0 (by omega)
  have q1 : ttE (n - teO f 1) 4096 (offF f (teO f 1)) = 0 := fi_each h 1 (by omega)
  have q2 : tllE (n - teO f 2) 7 (offF f (teO f 2)) = 0 := fi_each h 2 (by omega)
  obtain ⟨a1, a2⟩ := once_nu 2 q0
  obtain ⟨b1, b2⟩ := once_tx q1
  obtain ⟨c1, c2⟩ := once_ls' q2
  have l0 := puO_le 2 q0
  have l1 := (tt_le q1).2.2
  have l2 := tlO_le (tll_ok q2).1 _ (tll_ok q2).2.2
  rw [← nuL_congr fun j hj => entN_pu f j hj] at a1
  rw [← nuF_congr fun j hj => entN_pu f j hj] at a2
  have o1 : teO f 1 = puO f 2 := rfl
  have o2 : teO f 2 = teO f 1 + (tkL (offF f (teO f 1)) + tkV (offF f (teO f 1))) := rfl
  have o3 : teO f 3 = teO f 2 + tlO (offF f (teO f 2)) (tkV (offF f (teO f 2))) := rfl
  rw [offF_offF] at b2
  have e2 := cat_pre (F := nuF (th2 ((puX f 0 : Nat) : Int) (puX f 1 : Nat)) 2) a2 (fun i hi => b2 i hi)
  have e3 := cat_pre e2 (fun i hi => c2 i hi)
  unfold entL entF teT teF teM teX
  rw [a1, b1, c1]
  refine ⟨by omega, ?_, by omega⟩
  intro i hi
  exact e3 i (by omega)
/- what is written, read -/
theorem back_nu {x : Nat → Int} {n c : Nat} {f : Bf} (hn : nuL x c ≤ n) (hx : ∀ i, i < c → 0 ≤ x i ∧ x i < 9223372036854775808) (hf : ∀ i, i < nuL x c → f i = nuF x c i) :
    ∀ j, j ≤ c → puE n f j = 0 ∧ puO f j = nuL x j ∧ ∀ i, i < j → ((puX f i : Nat) : Int) = x i := by
  intro j
  induction j with
  | zero => exact fun _ => ⟨rfl, rfl, fun i hi => by omega⟩
  | succ j ih =>
    intro hj
    obtain ⟨i1, i2, i3⟩ := ih (by omega)
    have hm : nuL x (j + 1) ≤ nuL x c := by
      have h := cu_mono (fun i => encL (x i).toNat) (j + 1) (c - (j + 1))
      rw [show j + 1 + (c - (j + 1)) = c by omega] at h
      exact h
    have hstep : nuL x (j + 1) = nuL x j + encL (x j).toNat := rfl
    obtain ⟨q1, q2, q3⟩ := tk_enc (x j).toNat (by have := hx j (by omega); omega) (n - nuL x j) (offF f (nuL x j)) (by omega) (fun i hi => by
      unfold offF
      rw [hf _ (by omega)]
      exact cu_block (fun i => encL (x i).toNat) (fun i => encF (x i).toNat) j c i (by omega) hi)
    rw [← i2] at q1 q2 q3
    refine ⟨(fi_step i1).trans q1, ?_, fun i hi => ?_⟩
    · show puO f j + tkL (offF f (puO f j)) = _
      rw [q3, i2, hstep]
    · by_cases h : i = j
      · subst h
        have hb := hx i (by omega)
        show ((tkV (offF f (puO f i)) : Nat) : Int) = _
        rw [q2]
        omega
      · exact i3 i (by omega)
theorem back_tx {T n : Nat} {t f : Bf} (hn : txL T ≤ n) (hT : T ≤ 4096) (hf : ∀ i, i < txL T → f i = txF T t i) : ttE n 4096 f = 0 ∧ tkV f = T ∧ tkL f = encL T ∧ ∀ i, i < T → offF f (tkL f) i = t i := by
  unfold txL at hn hf
  obtain ⟨q1, q2, q3⟩ := tk_enc T (by omega) n f (by omega) (fun i hi => by rw [hf i (by omega)]; unfold txF catF; rw [if_pos hi])
  refine ⟨?_, q2, q3, fun i hi => ?_⟩
  · unfold ttE
    rw [if_neg (fun h => h q1), q2, q3, if_neg (by omega), if_neg (by omega)]
  · rw [q3]
    unfold offF
    rw [hf _ (by omega)]
    unfold txF catF
    rw [if_neg (by omega), show encL T + i - encL T = i by omega]
theorem cat_left {a : Nat} {F G f : Bf} {b : Nat} (h : ∀ i, i < a + b → f i = catF a F G i) : ∀ i, i < a → f i = F i := fun i hi => by rw [h i (by omega)]; unfold catF; rw [if_pos hi]
theorem cat_right {a : Nat} {F G f : Bf} {b : Nat} (h : ∀ i, i < a + b → f i = catF a F G i) : ∀ i, i < b → offF f a i = G i := fun i hi => by
  unfold offF
  rw [h _ (by omega)]
  unfold catF
  rw [if_neg (by omega), show a + i - a = i by omega]
theorem back_com {k s q i n : Int} {T U m : Nat} {d b f : Bf} (hc : chkE k s q i n T U = 0) (hb : ∀ j, -9223372036854775808 ≤ comN k s q i n j ∧ comN k s q i n j < 9223372036854775808) (hm : comL k s q i n T U = m) (hf : ∀ j, j < m → f j = comF k s q i n T U d b j) :
    tcK m f ∧ ((puX f 0 : Nat) : Int) = k ∧ ((puX f 1 : Nat) : Int) = s ∧ ((puX f 2 : Nat) : Int) = q ∧ ((puX f 3 : Nat) : Int) = i ∧ ((puX f 4 : Nat) : Int) = n ∧ tcT f = T ∧ tcU f = U ∧ (∀ j, j < T → tcF f j = d j) ∧ ∀ j, j < U → tcG f j = b j := by
  obtain ⟨p0, p1, p2, p3, p4, pT, pU⟩ := chk_ok hc
  unfold comL at hm
  unfold comF at hf
  rw [← hm] at hf
  have f1 := cat_left hf
  have f3 := cat_right hf
  have f2 := cat_right f1
  have f0 := cat_left f1
  obtain ⟨e1, e2, e3⟩ := back_nu (n := m) (by omega) (fun j hj => by
    refine ⟨?_, (hb j).2⟩
    have : j = 0 ∨ j = 1 ∨ j = 2 ∨ j = 3 ∨ j = 4 := by omega
    rcases this with rfl | rfl | rfl | rfl | rfl
    · exact p0
    · exact p1
    · exact p2
    · exact p3
    · exact p4) f0 5 (Nat.le_refl _)
  have o1 : tcO f 1 = nuL (comN k s q i n) 5 := e2
  rw [← o1] at f2 f3 hm
  obtain ⟨g1, g2, g3, g4⟩ := back_tx (n := m - tcO f 1) (by omega) (by omega) f2
  have o2 : tcO f 2 = tcO f 1 + txL T := by
    show tcO f 1 + (tkL (offF f (tcO f 1)) + tkV (offF f (tcO f 1))) = _
    rw [g2, g3]; rfl
  rw [← o2] at f3 hm
  obtain ⟨h1, h2, h3, h4⟩ := back_tx (n := m - tcO f 2) (by omega) (by omega) f3
  have o3 : tcO f 3 = tcO f 2 + txL U := by
    show tcO f 2 + (tkL (offF f (tcO f 2)) + tkV (offF f (tcO f 2))) = _
    rw [h2, h3]; rfl
  have x0 : ((puX f 0 : Nat) : Int) = k := e3 0 (by omega)
  have x1 : ((puX f 1 : Nat) : Int) = s := e3 1 (by omega)
  have x2 : ((puX f 2 : Nat) : Int) = q := e3 2 (by omega)
  have x3 : ((puX f 3 : Nat) : Int) = i := e3 3 (by omega)
  have x4 : ((puX f 4 : Nat) : Int) = n := e3 4 (by omega)
  have xT : tcT f = T := g2
  have xU : tcU f = U := h2
  refine ⟨⟨fi_zero fun j hj => ?_, by omega, by rw [x0, x1, x2, x3, x4, xT, xU]; exact hc⟩, x0, x1, x2, x3, x4, xT, xU, fun j hj => ?_, fun j hj => ?_⟩
  · have : j = 0 ∨ j = 1 ∨ j = 2 := by omega
    rcases this with rfl | rfl | rfl
    · exact e1
    · exact g1
    · exact h1
  · have := g4 j hj
    rw [offF_offF] at this
    exact this
  · have := h4 j hj
    rw [offF_offF] at this
    exact this
theorem back_rep {x n m : Int} {T M : Nat} {d f : Bf} (hc : repE x n m T = 0) (hb : ∀ j, -9223372036854775808 ≤ repN x n m j ∧ repN x n m j < 9223372036854775808) (hM : repL x n m T ≤ M) (hf : ∀ j, j < repL x n m T → f j = repF x n m T d j) :
    trE M f = 0 ∧ ((puX f 0 : Nat) : Int) = x ∧ ((puX f 1 : Nat) : Int) = n ∧ ((puX f 2 : Nat) : Int) = m ∧ trT f = T ∧ (∀ j, j < T → trF f j = d j) ∧ trO f 2 = repL x n m T := by
  have c0 : nuE (repN x n m) 3 = 0 := fi_each (E := th2 (nuE (repN x n m) 3) (txE T)) hc 0 (by omega)
  have c1 : txE T = 0 := fi_each (E := th2 (nuE (repN x n m) 3) (txE T)) hc 1 (by omega)
  have hT : T ≤ 4096 := by
    unfold txE at c1
    split at c1
    · omega
    · omega
  have hp : ∀ j, j < 3 → 0 ≤ repN x n m j := fun j hj => by
    have := fi_each c0 j hj
    unfold neE at this
    split at this
    · omega
    · omega
  unfold repL at hM hf ⊢
  unfold repF at hf
  have f0 := cat_left hf
  have f1 := cat_right hf
  obtain ⟨e1, e2, e3⟩ := back_nu (n := M) (by omega) (fun j hj => ⟨hp j hj, (hb j).2⟩) f0 3 (Nat.le_refl _)
  have o1 : trO f 1 = nuL (repN x n m) 3 := e2
  rw [← o1] at f1 hM ⊢
  obtain ⟨g1, g2, g3, g4⟩ := back_tx (n := M - trO f 1) (by omega) hT f1
  have o2 : trO f 2 = trO f 1 + txL T := by
    show trO f 1 + (tkL (offF f (trO f 1)) + tkV (offF f (trO f 1))) = _
    rw [g2, g3]; rfl
  refine ⟨fi_zero fun j hj => ?_, e3 0 (by omega), e3 1 (by omega), e3 2 (by omega), g2, fun j hj => ?_, o2⟩
  · have : j = 0 ∨ j = 1 := by omega
    rcases this with rfl | rfl
    · exact e1
    · exact g1
  · have := g4 j hj
    rw [offF_offF] at this
    exact this
theorem back_ent {t k : Int} {x : Nat → Int} {T n m : Nat} {d f : Bf} (hc : enE t k x T n = 0) (hb : ∀ j, -9223372036854775808 ≤ th2 t k j ∧ th2 t k j < 9223372036854775808) (hx : ∀ i, i < n → -9223372036854775808 ≤ x i ∧ x i < 9223372036854775808) (hm : entL t k x T n = m) (hf : ∀ j, j < m → f j = entF t k x T n d j) :
    teK m f ∧ ((puX f 0 : Nat) : Int) = t ∧ ((puX f 1 : Nat) : Int) = k ∧ teT f = T ∧ teM f = n ∧ (∀ j, j < T → teF f j = d j) ∧ ∀ j, j < n → teX f j = x j := by
  obtain ⟨p0, p1, p2, pT, pn⟩ := ent_ok hc
  have hp : ∀ j, j < n → 0 ≤ x j := fun j hj => by
    have := fi_each p2 j hj
    unfold neE at this
    split at this
    · omega
    · omega
  unfold entL at hm
  unfold entF at hf
  rw [← hm] at hf
  have f1 := cat_left hf
  have f3 := cat_right hf
  have f2 := cat_right f1
  have f0 := cat_left f1
  obtain ⟨e1, e2, e3⟩ := back_nu (n := m) (by omega) (fun j hj => by
    refine ⟨?_, (hb j).2⟩
    have : j = 0 ∨ j = 1 := by omega
    rcases this with rfl | rfl
    · exact p0
    · exact p1) f0 2 (Nat.le_refl _)
  have o1 : teO f 1 = nuL (th2 t k) 2 := e2
  rw [← o1] at f2 f3 hm
  obtain ⟨g1, g2, g3, g4⟩ := back_tx (n := m - teO f 1) (by omega) (by omega) f2
  have o2 : teO f 2 = teO f 1 + txL T := by
    show teO f 1 + (tkL (offF f (teO f 1)) + tkV (offF f (teO f 1))) = _
    rw [g2, g3]; rfl
  rw [← o2] at f3 hm
  have hxn : ∀ i, i < n → natS x i < 9223372036854775808 := fun i hi => by have := hx i hi; have := hp i hi; unfold natS; omega
  obtain ⟨h1, h2, h3⟩ := back_list (x := natS x) (c := n) (n := m - teO f 2) (f := offF f (teO f 2)) (by omega) (by omega) hxn f3
  obtain ⟨h4, h5, h6⟩ := h3 n (Nat.le_refl _)
  have o3 : teO f 3 = teO f 2 + lsL (natS x) n n := by
    show teO f 2 + tlO (offF f (teO f 2)) (tkV (offF f (teO f 2))) = _
    rw [h2, h5]
  have x0 : ((puX f 0 : Nat) : Int) = t := e3 0 (by omega)
  have x1 : ((puX f 1 : Nat) : Int) = k := e3 1 (by omega)
  have xT : teT f = T := g2
  have xn : teM f = n := h2
  have xX : ∀ j, j < n → teX f j = x j := fun j hj => by
    show ((tlX (offF f (teO f 2)) j : Nat) : Int) = x j
    rw [h6 j hj]
    have := hp j hj
    unfold natS
    omega
  have q2 : tllE (m - teO f 2) 7 (offF f (teO f 2)) = 0 := by
    unfold tllE
    rw [if_neg (fun h => h h1), h2, if_neg (by omega)]
    exact h4
  have xE : nuE (teX f) n = 0 := nuE_of_pos fun j hj => by rw [xX j hj]; exact hp j hj
  refine ⟨⟨fi_zero fun j hj => ?_, by omega, ?_⟩, x0, x1, xT, xn, fun j hj => ?_, xX⟩
  · have : j = 0 ∨ j = 1 ∨ j = 2 := by omega
    rcases this with rfl | rfl | rfl
    · exact e1
    · exact g1
    · exact q2
  · rw [x0, x1, xT, xn]
    unfold enE at hc ⊢
    rw [xE]
    rw [p2] at hc
    exact hc
  · have := g4 j hj
    rw [offF_offF] at this
    exact this
end Go.Proofs.Ytfpkfbojckgcdaa.Oct

import Derived.Test.YteffjpdcghlnlaaGreatDoorZbStX
set_option linter.unusedVariables false
set_option linter.unusedSimpArgs false
namespace Go.Proofs.YteffjpdcghlnlaaGreatDoor.Oct
def NoF {α : Type} (e : α → By) (G : α → Prop) (l : By) : Prop := ∀ a r, G a → l ≠ e a ++ r
def Unq {α : Type} (e : α → By) (G : α → Prop) (R : α → α → Prop) : Prop := ∀ a b r r', G a → G b → e a ++ r = e b ++ r' → R a b ∧ r = r'
theorem NoF.less {α : Type} {e : α → By} {G G' : α → Prop} {l : By} (h : NoF e G l) (hg : ∀ a, G' a → G a) : NoF e G' l := fun a r ha => h a r (hg a ha)
def eL {α : Type} (e : α → By) (L : List α) : By := eN L.length ++ L.flatMap e
def LG {α : Type} (m : Nat) (G : α → Prop) (L : List α) : Prop := L.length ≤ m ∧ ∀ a ∈ L, G a
def veG (v : Ve) : Prop := i63 v.u
def rgG (r : Rg) : Prop := LG 4 veG r.l
theorem eVe_unq : Unq eVe veG veS := fun a b r r' ha hb h => by
 unfold eVe at h
 simp only [List.append_assoc] at h
 obtain ⟨-, e1, h⟩ := eT_app (by omega) (by omega) h
 obtain ⟨e2, h⟩ := eI_app ha hb h
 obtain ⟨e3, h⟩ := eB_app h
 exact ⟨⟨e1, e2, e3⟩, h⟩
theorem eL_unq {α : Type} {e : α → By} {G : α → Prop} {R : α → α → Prop} (hu : Unq e G R) {m : Nat} (hm : u63 m) : Unq (eL e) (LG m G) (all2 R) := fun a b r r' ha hb h => by
 unfold eL at h
 simp only [List.append_assoc] at h
 obtain ⟨e1, h⟩ := eN_app (by have := ha.1; omega) (by have := hb.1; omega) h
 exact fm_app (P := G) (R := R) hu _ _ _ _ e1 ha.2 hb.2 h
theorem eRg_eq (r : Rg) : eRg r = eB r.off ++ eL eVe r.l := rfl
theorem eRg_unq : Unq eRg rgG rgS := fun a b r r' ha hb h => by
 rw [eRg_eq, eRg_eq, List.append_assoc, List.append_assoc] at h
 obtain ⟨e1, h⟩ := eB_app h
 obtain ⟨e2, h⟩ := eL_unq eVe_unq (m := 4) (by omega) _ _ _ _ ha hb h
 exact ⟨⟨e1, e2⟩, h⟩
theorem fm_drop {α : Type} {e : α → By} {G : α → Prop} {R : α → α → Prop} (hu : Unq e G R) : ∀ (L M : List α) (x r : By), L.length < M.length → (∀ a ∈ L, G a) → (∀ a ∈ M, G a) → L.flatMap e ++ x = M.flatMap e ++ r → ∃ a r', G a ∧ x = e a ++ r'
 | [], b :: M, x, r, _, _, h2, h => by
  rw [List.flatMap_nil, List.nil_append, List.flatMap_cons, List.append_assoc] at h
  exact ⟨b, _, h2 b (List.mem_cons_self ..), h⟩
 | a :: L, b :: M, x, r, hl, h1, h2, h => by
  rw [List.flatMap_cons, List.flatMap_cons, List.append_assoc, List.append_assoc] at h
  have h3 := (hu a b _ _ (h1 a (List.mem_cons_self ..)) (h2 b (List.mem_cons_self ..)) h).2
  exact fm_drop hu L M x r (by simpa using hl) (fun c hc => h1 c (List.mem_cons_of_mem _ hc)) (fun c hc => h2 c (List.mem_cons_of_mem _ hc)) h3
 | _, [], _, _, hl, _, _, _ => absurd hl (by simp)
theorem noL {α : Type} {e : α → By} {G : α → Prop} {R : α → α → Prop} (hu : Unq e G R) {k m : Nat} {L : List α} {l lj : By} (hm : u63 m) (hL : ∀ a ∈ L, G a) (hk : u63 k) (hj : L.length < k) (h : l = eN k ++ (L.flatMap e ++ lj)) (hn : NoF e G lj) :
  NoF (eL e) (LG m G) l := fun M r hM he => by
 rw [h] at he
 unfold eL at he
 rw [List.append_assoc] at he
 obtain ⟨e1, h2⟩ := eN_app hk (by have := hM.1; omega) he
 obtain ⟨a, r', ha, hx⟩ := fm_drop hu L M lj r (by omega) hL hM.2 h2
 exact hn a r' ha hx
theorem noL_count {α : Type} {e : α → By} {G : α → Prop} {m : Nat} {l : By} (hm : u63 m) (hn : NoF eN u63 l) : NoF (eL e) (LG m G) l := fun M r hM he => by
 refine hn M.length (M.flatMap e ++ r) (by have := hM.1; omega) ?_
 rw [he]; unfold eL; rw [List.append_assoc]
theorem noL_many {α : Type} {e : α → By} {G : α → Prop} {k m : Nat} {l r : By} (hm : u63 m) (hk : u63 k) (h : l = eN k ++ r) (hlt : m < k) : NoF (eL e) (LG m G) l := fun M s hM he => by
 rw [h] at he
 unfold eL at he
 rw [List.append_assoc] at he
 obtain ⟨e1, -⟩ := eN_app hk (by have := hM.1; omega) he
 have := hM.1
 omega
theorem no_1 {α β γ : Type} {e : γ → By} {e1 : α → By} {e2 : β → By} {G : γ → Prop} {G1 : α → Prop} {p : γ → α} {q : γ → β} (he : ∀ c, e c = e1 (p c) ++ e2 (q c)) (hg : ∀ c, G c → G1 (p c)) {l : By} (h : NoF e1 G1 l) : NoF e G l := fun c r hc h2 => by
 refine h (p c) (e2 (q c) ++ r) (hg c hc) ?_
 rw [h2, he, List.append_assoc]
theorem no_2 {α β γ : Type} {e : γ → By} {e1 : α → By} {e2 : β → By} {G : γ → Prop} {G1 : α → Prop} {G2 : β → Prop} {R : α → α → Prop} {p : γ → α} {q : γ → β} (he : ∀ c, e c = e1 (p c) ++ e2 (q c)) (hg : ∀ c, G c → G1 (p c) ∧ G2 (q c)) (hu : Unq e1 G1 R) {l l1 : By} {a : α} (ha : G1 a) (hl : l = e1 a ++ l1) (h : NoF e2 G2 l1) :
  NoF e G l := fun c r hc h2 => by
 rw [hl, he, List.append_assoc] at h2
 exact h (q c) r (hg c hc).2 (hu a (p c) _ _ ha (hg c hc).1 h2).2
theorem eN_unq : Unq eN u63 Eq := fun a b r r' ha hb h => eN_app ha hb h
theorem eB_unq : Unq eB (fun _ => True) Eq := fun a b r r' _ _ h => eB_app h
theorem eW_unq : Unq (eT 32) (fun _ => True) (fun f g => ∀ i, i < 32 → f i = g i) := fun a b r r' _ _ h => (eT_app (by omega) (by omega) h).2
theorem noB_num {l : By} (h : NoF eN u63 l) : NoF eB (fun _ => True) l := fun b r _ he => h _ r (by cases b <;> decide) he
theorem noB_many {l r : By} {n : Nat} (hn : u63 n) (h : l = eN n ++ r) (h1 : 1 < n) : NoF eB (fun _ => True) l := fun b s _ he => by
 rw [h] at he
 unfold eB at he
 obtain ⟨e1, -⟩ := eN_app hn (by cases b <;> decide) he
 cases b <;> simp at e1 <;> omega
theorem eB_of {n : Nat} (h : n ≤ 1) : eN n = eB (decide ((n : Int) = 1)) := by
 rcases (by omega : n = 0 ∨ n = 1) with rfl | rfl <;> rfl
def eSr (s : St × Nat) : By := eT 32 s.1.1 ++ (eT 32 s.1.2 ++ eN s.2)
def srG (s : St × Nat) : Prop := 1 ≤ s.2 ∧ u63 s.2
def srS (a b : St × Nat) : Prop := (∀ i, i < 32 → a.1.1 i = b.1.1 i) ∧ (∀ i, i < 32 → a.1.2 i = b.1.2 i) ∧ a.2 = b.2
theorem eSr_unq : Unq eSr srG srS := fun a b r r' ha hb h => by
 unfold eSr at h
 simp only [List.append_assoc] at h
 obtain ⟨-, e1, h⟩ := eT_app (by omega) (by omega) h
 obtain ⟨-, e2, h⟩ := eT_app (by omega) (by omega) h
 obtain ⟨e3, h⟩ := eN_app ha.2 hb.2 h
 exact ⟨⟨e1, e2, e3⟩, h⟩
theorem okK.lg {K : Ks} (h : okK K) : LG 8 rgG K := ⟨h.1, fun r hr => ⟨(h.2 r hr).1.2, fun v hv => by
 have := ((h.2 r hr).2 v hv).1
 exact ⟨this.1, by omega⟩⟩⟩
end Go.Proofs.YteffjpdcghlnlaaGreatDoor.Oct

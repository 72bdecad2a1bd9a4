/- Contracts of the reference's primes, Thirds, Seconds, Make. -/
import Derived.Test.YtjebkokkgkkogaaDoorShaG
import Derived.Test.YtjebkokkgkkogaaDoorShaC
import Derived.Test.YtjebkokkgkkogaaDoorOwnG
namespace Go.Proofs.YtjebkokkgkkogaaDoor.Oct
open Go.ChangeShapes Go.WideShapes Go.ChangeAt Go.RowKit
set_option linter.unusedVariables false

theorem u64s_u : Tryd.prog.underlying 48 = some (.slice 51) := by kernel_rfl
theorem u64_info : (Tryd.prog.info? 51).map (fun i => (i.zero, i.size, i.bytes)) = some (some (.int .u64 0), 1, 8) := by kernel_rfl
theorem u32s_u : Tryd.prog.underlying 37 = some (.slice 28) := by kernel_rfl
theorem u32_info : (Tryd.prog.info? 28).map (fun i => (i.zero, i.size, i.bytes)) = some (some (.int .u32 0), 1, 4) := by kernel_rfl

def vN (l : List Nat) : List Value := l.map fun p : Nat => .int .u64 (p : Int)
theorem vN_len (l : List Nat) : (vN l).length = l.length := by unfold vN; simp
theorem nth_vN (l : List Nat) (i : Nat) (h : i < l.length) : nth (vN l) i = .int .u64 ((l.getD i 0 : Nat) : Int) := by
  unfold nth vN; simp [h]
theorem prl_two : ∀ j, ∀ p ∈ prl j, 2 ≤ p := by
  intro j
  induction j with
  | zero => intro p hp; simp [prl] at hp
  | succ j ih =>
    intro p hp
    simp only [prl] at hp
    split at hp
    · rcases List.mem_append.1 hp with h | h
      · exact ih p h
      · have : p = j + 2 := by simpa using h
        omega
    · exact ih p hp
/-- the first i of l do not divide n -/
def prm (l : List Nat) (n i : Nat) : Bool := (l.take i).all fun p => n % p != 0
theorem prm_step (l : List Nat) (n i : Nat) (h : i < l.length) : prm l n (i + 1) = (prm l n i && n % l.getD i 0 != 0) := by
  unfold prm
  rw [List.take_succ_eq_append_getElem h, List.all_append]
  simp [h]
theorem prm_all (l : List Nat) (n : Nat) : prm l n l.length = l.all fun p => n % p != 0 := by unfold prm; rw [List.take_length]
theorem prl_y (j : Nat) (h : prm (prl j) (j + 2) (prl j).length = true) : prl (j + 1) = prl j ++ [j + 2] := by
  rw [prm_all] at h; simp only [prl]; rw [if_pos h]
theorem prl_n (j : Nat) (h : prm (prl j) (j + 2) (prl j).length = false) : prl (j + 1) = prl j := by
  rw [prm_all] at h; simp only [prl]; rw [if_neg (by rw [h]; simp)]

theorem vN_app (l : List Nat) (n : Nat) : vN (l ++ [n]) = vN l ++ [.int .u64 (n : Int)] := by unfold vN; simp
theorem bne_mod (N p : Nat) : ((N : Int) % (p : Int) != 0) = (N % p != 0) := by
  rw [← Int.natCast_emod, Bool.eq_iff_iff]
  simp
  omega

set_option maxRecDepth 20000 in
set_option maxHeartbeats 4000000 in
theorem primes_any (many J : Nat) (hJ : J ≤ 400) (hm : many ≤ 100) (hiff : ∀ j, j ≤ J → ((prl j).length < many ↔ j < J)) (hl : (prl J).length = many) (h0 : 0 < many) (w : World) :
    Calls Tryd.prog 26 #[.int .i64 many] w fun e w' => ∃ g c cur, e = .returned (.slice (some ⟨g, 0, none⟩) many c) ∧ w.heap.size ≤ g ∧ row w' g = some cur ∧ (∀ i, i < many → cur[i]? = some (.int .u64 (((prl J).getD i 0 : Nat) : Int))) ∧ Below w.heap.size w w' := by
  have HIF := Lib.hid hiff
  have HL := Lib.hid hl
  clear hiff hl
  go_enter Tryd.func26, Tryd.ntmps26
  go_wp2_with fail
  go_loopw [3, 4, 5, 6] (fun lv nv _ _ wr => ∃ j : Nat, j ≤ J ∧ nv = .int .u64 ((j + 2 : Nat) : Int) ∧ wr.ownsRow w.heap.size 51 1 lv (prl j).length (vN (prl j)) ∧ Below w.heap.size w wr) (fun _ nv _ _ _ => 500 - (intOf nv).toNat)
  case atStart => exact ⟨0, by omega, rfl, (World.ownsRow_nil w w.heap.size 51 1 : w.ownsRow w.heap.size 51 1 (.slice none 0 0) 0 []), Below.refl _ _⟩
  case round =>
    obtain ⟨j, hj, rfl, hO, hB⟩ := hrel
    obtain ⟨wo, rfl⟩ : ∃ wo : World, wo = wr := ⟨_, rfl⟩
    obtain ⟨A, c, hlv, hsl, -, hA⟩ := ownsRow_slG hO
    subst hlv
    have HO := Lib.hid hO
    have HB := Lib.hid hB
    have HSL := Lib.hid hsl
    obtain ⟨q, hq⟩ : ∃ q, q = (prl j).length := ⟨_, rfl⟩
    obtain ⟨N, hN⟩ : ∃ N, N = j + 2 := ⟨_, rfl⟩
    rw [← hN]
    rw [← hq] at HO HSL ⊢
    have HQ := Lib.hid hq
    have HN := Lib.hid hN
    have hNb : N ≤ 402 := by omega
    have hq2 : q < many ↔ j < J := by rw [hq]; exact HIF.out j hj
    clear hO hB hsl hA hq hN
    by_cases hlt : q < many
    · have hd : decide ((q : Int) < (many : Int)) = true := by simp; omega
      have hjJ : j < J := hq2.1 hlt
      clear hq2
      go_wp2_with fail
      go_loopw [5, 6] (fun pv iv wq => ∃ i : Nat, i ≤ q ∧ iv = .int .i64 i ∧ pv = .bool (prm (prl j) N i) ∧ wq = wo) (fun _ iv _ => q - (intOf iv).toNat)
      case atStart => exact ⟨0, by omega, rfl, rfl, rfl⟩
      case round =>
        obtain ⟨i, hi, rfl, rfl, rfl⟩ := hrel
        by_cases hli : i < q
        · have hdi : decide ((i : Int) < (q : Int)) = true := by simp; omega
          obtain ⟨g, o, hA, hg, hcell⟩ := HSL.out.at_ (by omega)
          subst hA
          have hc := hcell i hli
          have hi2 : i < (prl j).length := by rw [← HQ.out]; exact hli
          rw [nth_vN _ _ hi2] at hc
          have hst := prm_step (prl j) N i hi2
          have hp2 : 2 ≤ (prl j).getD i 0 := prl_two j _ (by rw [List.getD_eq_getElem?_getD, List.getElem?_eq_getElem hi2]; exact List.getElem_mem hi2)
          obtain ⟨p, hp⟩ : ∃ p, p = (prl j).getD i 0 := ⟨_, rfl⟩
          rw [← hp] at hc hst hp2
          have HST := Lib.hid hst
          clear hcell hst hp hi2 hg
          cases hpr : prm (prl j) N i
          · have HPR := Lib.hid hpr
            clear hpr
            go_wp2_with fail
            go_roundw
            case rel => exact ⟨i + 1, by omega, by go_num, by rw [HST.out, HPR.out]; rfl, trivial⟩
            case measure => simp [intOf]; omega
          · have HPR := Lib.hid hpr
            clear hpr
            go_wp2_with fail
            go_roundw
            case rel => exact ⟨i + 1, by omega, by go_num, by rw [HST.out, HPR.out, Bool.true_and, bne_mod], trivial⟩
            case measure => simp [intOf]; omega
        · obtain rfl : i = q := by omega
          cases hpr : prm (prl j) N i
          · have HV := Lib.hid (prl_n j (by rw [← HQ.out, ← HN.out]; exact hpr))
            have HPR := Lib.hid hpr
            clear hpr
            go_wp2_with fail
            go_roundw
            case rel => exact ⟨j + 1, by omega, by congr 1; have := HN.out; omega, by rw [HV.out, ← HQ.out]; exact HO.out, HB.out⟩
            case measure => simp [intOf]; omega
          · have HV := Lib.hid (prl_y j (by rw [← HQ.out, ← HN.out]; exact hpr))
            have HPR := Lib.hid hpr
            clear hpr
            go_wp2_with (at_builtin; refine wpl_appOne rfl (.tmp 30) (.tmp 32) rfl u64s_u u64_info rfl (by decide) HO.out rfl (by omega) HB.out.size rfl rfl ?_; intro v' w2 ho hg)
            have B2 := Lib.hid (ownsRow_after (HO.out.alloc (.cells #[.int .u64 (N : Int)] 51)) hg (HB.out.alloc HB.out.size _) (by have := HB.out.size; simp; omega) (Nat.le_refl _))
            have HO2 := Lib.hid ho
            clear ho hg
            go_wp2_with fail
            go_roundw
            case rel => exact ⟨j + 1, by omega, by congr 1; have := HN.out; omega, by rw [HV.out, List.length_append, ← HQ.out, ← HN.out, vN_app]; exact HO2.out, B2.out⟩
            case measure => simp [intOf]; omega
    · have hd : decide ((q : Int) < (many : Int)) = false := by simp; omega
      obtain rfl : j = J := by omega
      obtain rfl : q = many := by rw [HQ.out]; exact HL.out
      obtain ⟨g, c', cur, hv, hg, -, hr, hcu⟩ := ownsRow_row HO.out h0
      obtain ⟨rfl, rfl⟩ : A = some ⟨g, 0, none⟩ ∧ c = c' := by injection hv with e1 e2 e3; exact ⟨e1, e3⟩
      have HC := Lib.hid hcu
      clear hcu hr hv
      go_wp2_with fail
      go_ret
      obtain ⟨g', c'', cur', hv, hg, -, hr, hcu⟩ := ownsRow_row HO.out h0
      obtain rfl : g = g' := by injection hv with e1 e2 e3; injection e1 with e1; injection e1
      exact ⟨g, c, cur', rfl, hg, hr, fun i hi => by rw [hcu i hi, nth_vN _ _ (by rw [HL.out]; exact hi)], HB.out⟩
end Go.Proofs.YtjebkokkgkkogaaDoor.Oct

/- Contract: sessions' Seats. -/
import Derived.Test.YthokiohdeclmhaaSsD
namespace Go.Proofs.Ythokiohdeclmhaa.Oct
open Go.ChangeShapes Go.WideShapes Go.ChangeAt Go.RowKit Go.Maps
set_option linter.unusedVariables false

theorem keysF_any (mb : Option Nat) (W : World) : Calls Try.prog 33 #[.map mb] W fun e w' => e = .returned (.func (.func 42) #[] #[.pointer (some ⟨W.heap.size, 0, none⟩)]) ∧ w' = W.alloc (.cells #[.map mb] 59) := keysI_any mb W
def ssK (l : List Se) : Nat → Value := fun i => .int .i64 ((l.map Se.id).getD i 0)
/-- the numbers of the sessions, in their order -/
theorem skeys_any (T : Mk) (t : Nat) (mv : Option Nat) (l : List Se) (w : World) (h : MpV T w t mv l) (hup : l.Pairwise fun a b => a.id < b.id) (hn : l.length ≤ 8) :
    Calls Try.prog 32 #[.func (.func 42) #[] #[.pointer (some ⟨w.heap.size, 0, none⟩)]] (w.alloc (.cells #[.map mv] 59)) fun e w' => ∃ A c, e = .returned (.slice A l.length c) ∧
      SlG w' w'.heap.size A l.length c (ssK l) ∧ (∀ a, A = some a → w.heap.size ≤ a.block) ∧ Below w.heap.size w w' := by
  have b1 : Below w.heap.size w (w.alloc (.cells #[.map mv] 59)) := (Below.refl _ _).alloc (Nat.le_refl _) _
  have hz : w.heap.size < (w.alloc (.cells #[.map mv] 59)).heap.size := by simp
  have hc : (w.alloc (.cells #[.map mv] 59)).cell? ⟨w.heap.size, 0, none⟩ = some (.map mv) := by rw [cell_row (row_alloc_at _ _ _ _ rfl)]; rfl
  rcases h with ⟨rfl, rfl⟩ | ⟨M, rfl, -, hM⟩
  · refine (sortedN_any _ _ hz hc).mono ?_
    rintro e w' ⟨rfl, hb⟩
    exact ⟨none, 0, rfl, ⟨Nat.le_refl _, fun h => absurd h (by simp)⟩, fun a ha => by (cases ha), onto b1 (Nat.le_of_lt hz) hb⟩
  · obtain ⟨D, h1, h2, h3⟩ := hM.keys hup
    have hown : (w.alloc (.cells #[.map (some M)] 59)).ownsMap Try.prog 3 RV M (Go.Maps.size D) D := h1.alloc _
    refine (sortedI_any M _ D _ hz hc hown (by omega)).mono ?_
    rintro e w' ⟨v, ss, rfl, hp, hrow, hnil, hb⟩
    obtain ⟨e1, e2⟩ := h3 ss hp
    rw [e2, e1] at hrow
    obtain ⟨A, c, rfl, hs, -, hA⟩ := ownsRow_slG hrow
    refine ⟨A, c, rfl, hs.congr fun i hi => ?_, fun a ha => ?_, onto b1 (Nat.le_of_lt hz) hb⟩
    · unfold nth ssK
      rw [List.getD_eq_getElem?_getD, List.getD_eq_getElem?_getD, List.getElem?_map, List.getElem?_map, List.getElem?_eq_getElem hi]
      rfl
    · rcases hA with h | ⟨g, h, hg⟩
      · rw [h] at ha; cases ha
      · rw [h] at ha; cases ha; exact Nat.le_trans (Nat.le_of_lt hz) hg
theorem ssl_u : Try.prog.underlying 43 = some (.slice 50) := Try.underlying43
theorem se_info : (Try.prog.info? 50).map (fun i => (i.zero, i.size, i.bytes)) = some (some (seV (.new 0) (.slice none 0 0)), 6, 64) := by kernel_rfl
set_option maxRecDepth 20000 in
set_option maxHeartbeats 8000000 in
/-- what Seats tells: a new row, of mark ts -/
theorem pseats_any (T : Mk) (t ts B : Nat) (mv : Option Nat) (l : List Se) (g : Int) (w : World) (hP : PtAt T w t B mv l g) (ht : 0 < t) (hts : 0 < ts) (h1 : ts ≠ t) (h2 : ts ≠ t + 1) (hK : SsOk l g) :
    Calls Try.prog 23 #[.pointer (some ⟨B, 0, none⟩)] w fun e w' => ∃ A c T', e = .returned (.tuple #[.slice A l.length c, .int .i64 (g + 1)]) ∧ ElAt 6 seEl T' w' ts A c l ∧ Fr T T' (fun x => x = ts) w w' := by
  have HK := Lib.hid hK
  have HP := Lib.hid hP
  have hn8 := hK.n
  obtain ⟨a0, a1⟩ := cells2S hP.row
  have H1 := Lib.hid (keysF_any mv w)
  have H2' := Lib.hid (skeys_any T (t + 1) mv l w hP.mp hK.up hn8)
  clear hP hK
  go_enter Try.func23, Try.ntmps23
  go_wp2_with fail
  refine H1.out.mono ?_
  rintro e w' ⟨rfl, rfl⟩
  go_wp2_with fail
  refine H2'.out.mono ?_
  rintro e w4 ⟨AK, cK, rfl, hk, hka, hb4⟩
  have P4 := Lib.hid (HP.out.fr (Fr.new (H := fun _ => False) hb4 0) (fun h => h) (fun h => h) (fun h => h))
  have F4 := Lib.hid (Fr.new (T := T) (H := fun x => x = ts) hb4 0)
  have K4 := Lib.hid hk
  have K5 := Lib.hid (show ∀ a, AK = some a → paint T w.heap.size 0 a.block = 0 from fun a ha => paint_new (hka a ha))
  obtain ⟨T4, hT4⟩ : ∃ T4, T4 = paint T w.heap.size 0 := ⟨_, rfl⟩
  rw [← hT4] at P4 F4 K5
  clear hk hka hb4 hT4 H1 H2' a0 a1
  go_wp2_with fail
  go_loopw [4, 14] (fun lv iv wr => ∃ (j : Nat) (T1 : Mk) (A : Option Addr) (c : Nat), j ≤ l.length ∧ iv = .int .i64 (j : Int) ∧ lv = .slice A j c ∧ Fr T4 T1 (fun x => x = ts) w4 wr ∧ ElAt 6 seEl T1 wr ts A c (l.take j)) (fun _ iv _ => l.length - (intOf iv).toNat)
  case atStart => exact ⟨0, T4, none, 0, by omega, rfl, rfl, Fr.refl _ _ _, ElAt.nil _ _ _⟩
  case round =>
    obtain ⟨j, T1, A, c, hj, rfl, rfl, hf, hel⟩ := hrel
    obtain ⟨wo, rfl⟩ : ∃ wo : World, wo = wr := ⟨_, rfl⟩
    have HF := Lib.hid hf
    have HE := Lib.hid hel
    have P5 := Lib.hid (P4.out.fr hf (fun e => h1 e.symm) (fun e => h2 e.symm) (by omega))
    clear hf hel
    by_cases hlt : j < l.length
    · have hd : decide ((j : Int) < (l.length : Int)) = true := by simp; omega
      obtain ⟨gk, ok, hA, hgk, hck⟩ := K4.out.at_ (by omega)
      subst hA
      have ck : wo.cell? ⟨gk, ok + j, none⟩ = some (ssK l j) := by rw [HF.out.cellAt hgk (by rw [K5.out _ rfl]; omega)]; exact hck j hlt
      have ek : ssK l j = .int .i64 (l[j]).id := by unfold ssK; rw [List.getD_eq_getElem?_getD, List.getElem?_map, List.getElem?_eq_getElem hlt]; rfl
      rw [ek] at ck
      have hmem : l[j] ∈ l := List.getElem_mem hlt
      have hbd := HK.out.bd _ hmem
      have hg1 := HK.out.g1
      obtain ⟨s, As, cs, q1, q2, hs, hg⟩ := P5.out.mp.look (id := (l[j]).id) (by unfold i64B; omega) (seat_z _)
      have hs' : s = l[j] := by
        have e := ssG_mem HK.out.up hmem
        rcases hg with h | ⟨-, h, -⟩
        · rw [e] at h; exact (Option.some.inj h).symm
        · rw [e] at h; cases h
      have HS := Lib.hid hs'
      have hsT : s.T ≤ 140737488355328 := by rw [hs']; exact HK.out.t _ hmem
      have H6 := Lib.hid (cseat_any s As cs wo hs.sl hsT)
      obtain ⟨a0, a1⟩ := cells2S P5.out.row
      have hcap := K4.out.le
      clear q1 hg hs hck ek hmem hbd hg1 hs'
      go_wp2_with fail
      refine H6.out.mono ?_
      rintro e w6 ⟨A', c', rfl, ho, hb⟩
      have bx : Below wo.heap.size wo (w6.alloc (.cells #[.int .i64 s.id, .int .i64 s.q, .int .i64 s.c, .int .i64 s.n, .int .i64 s.m, .slice A' s.T c'] 50)) := hb.alloc hb.size _
      have D6 := ho.rdS T1 0
      have b7 := (Below.refl w6.heap.size w6).alloc (Nat.le_refl _) (.cells #[.int .i64 s.id, .int .i64 s.q, .int .i64 s.c, .int .i64 s.n, .int .i64 s.m, .slice A' s.T c'] 50)
      obtain ⟨w7, hw7⟩ : ∃ w7, w7 = w6.alloc (.cells #[.int .i64 s.id, .int .i64 s.q, .int .i64 s.c, .int .i64 s.n, .int .i64 s.m, .slice A' s.T c'] 50) := ⟨_, rfl⟩
      have r7 : row w7 w6.heap.size = some #[.int .i64 s.id, .int .i64 s.q, .int .i64 s.c, .int .i64 s.n, .int .i64 s.m, .slice A' s.T c'] := by rw [hw7]; exact row_alloc_at _ _ _ _ rfl
      rw [← hw7] at bx b7
      have F7 := Lib.hid (Fr.new (T := T1) (H := fun x => x = ts) bx 0)
      have E7 := Lib.hid (HE.out.fr seEl_ok (Fr.new (T := T1) (H := fun _ => False) bx 0) (fun h => h) (fun h => h))
      have D7 := Lib.hid (D6.fr (Fr.calm (T' := paint T1 wo.heap.size 0) (H := fun _ => False) b7 fun _ _ => rfl) (fun h => h))
      have R7 := Lib.hid r7
      clear ho hb bx D6 b7 r7 q2 ck a0 a1 H6 hsT
      obtain ⟨T7, hT7⟩ : ∃ T7, T7 = paint T1 wo.heap.size 0 := ⟨_, rfl⟩
      rw [← hT7] at F7 E7 D7
      clear hT7
      have hla : (l.take j).length = j := by rw [List.length_take]; omega
      go_wp2_with (at_builtin; simp only [← hw7]; refine wpl_appAt seEl_ok rfl (.tmp 18) (.tmp 26) rfl ssl_u se_info rfl (by decide) (by decide) E7.out R7.out ⟨A', c', rfl, D7.out⟩ (by omega) (by omega) (by simp [Act.eval, hla]) (by simp [Act.eval]) ?_; intro A8 c8 w8 p8 f8)
      have el : l.take j ++ [s] = l.take (j + 1) := by rw [HS.out, ← List.take_append_getElem hlt]
      rw [el] at p8
      refine ⟨⟨j + 1, _, A8, c8, by omega, by rw [Int.natCast_succ], rfl, HF.out.trans (F7.out.trans f8), p8⟩, ?_⟩
      simp only [intOf]
      omega
    · obtain rfl : j = l.length := by omega
      have hd : decide ((l.length : Int) < (l.length : Int)) = false := by simp
      have hg0 := HK.out.g0
      have hg1 := HK.out.g1
      have H9 := Lib.hid (pnext_any B mv g wo P5.out.row hg0 hg1)
      have E9 := HE.out
      rw [List.take_length] at E9
      have HE9 := Lib.hid E9
      clear HE E9 K4 K5
      go_wp2_with fail
      refine H9.out.mono ?_
      rintro e w9 ⟨rfl, rfl⟩
      go_wp2_with fail
      exact bodyPost_ret (v := .tuple #[.slice A l.length c, .int .i64 (g + 1)]) (by simp [results, Try.results23, go_sem]) rfl ⟨A, c, T1, rfl, HE9.out, F4.out.trans HF.out⟩
end Go.Proofs.Ythokiohdeclmhaa.Oct

/- The statement ShaApart: the law strongroomlaw05.ShaApart answers true for every input, and leaves its arguments as they were. Condition: the package variable sha.roundConstants reads at the call as the text of the program lays it; the card ties that. -/
import Derived.Test.YtjebkokkgkkogaaDoorRows
import Derived.Test.YtjebkokkgkkogaaDoorLib
import Derived.Test.YtjebkokkgkkogaaDoorShaS
import Derived.Test.YtjebkokkgkkogaaDoorTab
import Derived.Test.YtjebkokkgkkogaaDoorCards
import Derived.Test.YtjebkokkgkkogaaDoorTie
import Derived.SevenTiedAt
namespace Go.Proofs.YtjebkokkgkkogaaDoor.shaApart
open Go.ChangeShapes Go.WideShapes Go.ChangeAt Go.RowKit
open Go.Proofs.YtjebkokkgkkogaaDoor.Oct
set_option linter.unusedVariables false

theorem own : ownKnob Tryd.prog.godebug = none := by kernel_rfl
theorem laidOut : laidOutB Tryd.prog = true := by kernel_rfl

theorem wpl_appF_w {P : Program} {w : World} {ops : Array Oper} {rest : List Oper} {o : Oper} {a : Act} {Q : Exit → Act → World → Prop} (hw : Region.wanted o (yielded ops a.tmps) = true) (s x : Operand) {t u : TypeId} (ho : o.op = .call { callee := .builtin .append, args := #[s, x], argTypes := #[t, t] })
    (ht : P.underlying t = some (.slice u)) (hi : (P.info? u).map (fun i => (i.zero, i.size, i.bytes)) = some (some (.int .u8 0), 1, 1))
    {B n : Nat} {A : Option Addr} {b : Bf} (hd : Sl w B A n n b) (hdm : n ≤ maxLen) (hBw : B ≤ w.heap.size) (hd0 : A = none → n = 0) {B' m c : Nat} {A' : Option Addr} {g : Bf} (hs : Sl w B' A' m c g) (hnm : n + m ≤ 140737488355328)
    (hv : a.eval s = .slice A n n) (hx : a.eval x = .slice A' m c)
    (h : ∀ A'' c'' w', Sl w' w'.heap.size A'' (n + m) c'' (catF n b g) → c'' ≤ maxLen → w.grownBy w' none → wpList P ops Q rest (a.put o.dst (.slice A'' (n + m) c'')) w') : wpList P ops Q (o :: rest) a w := by
  obtain ⟨A2, c2, w', hr, h1, h2, h3⟩ := run_appF (ty := o.type) ht hi hd hdm hBw hd0 hs hnm
  have key : ∀ K : Act → World → Prop, K (a.put o.dst (.slice A2 (n + m) c2)) w' → o.wp P a w K Q := fun K hK => by
    unfold Oper.wp execOp
    simp only [ho, resolve, invoke, builtin, Sem.run_bind, Sem.run_pure, Result.andThen_ok, List.map_toArray, List.map_cons, List.map_nil, hv, hx, hr]
    exact hK
  unfold wpList
  rw [if_pos hw]
  exact .inl (key _ (h A2 c2 w' h1 h2 h3))
set_option maxRecDepth 20000 in
set_option maxHeartbeats 4000000 in
theorem walk (a0 : Nat → BitVec 8) (n0 c0 : Nat) (A0 : Option Addr) (a1 : Nat → BitVec 8) (n1 c1 : Nat) (A1 : Option Addr) (w : World) (hs0 : Sl w w.heap.size A0 n0 c0 a0) (hm0 : c0 ≤ maxLen) (hs1 : Sl w w.heap.size A1 n1 c1 a1) (hm1 : c1 ≤ maxLen) (htab : Tab w) :
    Calls Tryd.prog 6 #[.slice A0 n0 c0, .slice A1 n1 c1] w fun e w' => e = .returned (.bool true) ∧ Below w.heap.size w w' := by
  unfold maxLen at hm0 hm1
  have HT := Lib.hid htab
  have HS0 := Lib.hid hs0
  have HS1 := Lib.hid hs1
  have hn0 : n0 ≤ c0 := hs0.le
  have hn1 : n1 ≤ c1 := hs1.le
  clear hs0 hs1 htab
  go_enter Tryd.func6, Tryd.ntmps6
  go_wp2_with fail
  refine (shown_any _ HT.out).mono ?_
  rintro e w1 ⟨rfl, hb1⟩
  have B1 := Lib.hid hb1
  have HT1 := Lib.hid (HT.out.below hb1 HT.out.pos)
  clear hb1
  have hcut0 : ∃ N, N ≤ 3000 ∧ N ≤ n0 ∧ ((3000 < n0 ∧ N = 3000) ∨ (n0 ≤ 3000 ∧ N = n0)) := ⟨min n0 3000, by omega, by omega, by omega⟩
  have hcut1 : ∃ N, N ≤ 3000 ∧ N ≤ n1 ∧ ((3000 < n1 ∧ N = 3000) ∨ (n1 ≤ 3000 ∧ N = n1)) := ⟨min n1 3000, by omega, by omega, by omega⟩
  obtain ⟨N, hN, hNn, hcase⟩ := hcut0
  obtain ⟨K, hK, hKn, hcase1⟩ := hcut1
  have HK0 := Lib.hid ((HS0.out.below B1.out).upto N hNn)
  have HK1 := Lib.hid ((HS1.out.below B1.out).upto K hKn)
  have HOE := Lib.hid (Own.empty w1 w1.heap.size 5 nF (Nat.le_refl _))
  have HSA := Lib.hid (HK0.out.below ((Below.refl w.heap.size w1).alloc B1.out.size (.cells #[] 5)))
  clear HS0 HS1
  rcases hcase with ⟨hlt, hN2⟩ | ⟨hlt, hN2⟩
  case' inl =>
    have hd : decide ((3000 : Int) < (n0 : Int)) = true := by simp; omega
    have hup := run_upto sli_u u8_i A0 n0 c0 N (by omega)
    rw [show ((N : Nat) : Int) = 3000 by omega] at hup
    clear hN2
  case' inr =>
    have hd : decide ((3000 : Int) < (n0 : Int)) = false := by simp; omega
    subst hN2
  all_goals
    rcases hcase1 with ⟨hlt1, hK2⟩ | ⟨hlt1, hK2⟩
    case' inl =>
      have hd1 : decide ((3000 : Int) < (n1 : Int)) = true := by simp; omega
      have hup1 := run_upto sli_u u8_i A1 n1 c1 K (by omega)
      rw [show ((K : Nat) : Int) = 3000 by omega] at hup1
      clear hK2
    case' inr =>
      have hd1 : decide ((3000 : Int) < (n1 : Int)) = false := by simp; omega
      subst hK2
  all_goals
    go_wp2_with (at_builtin; first | (refine wpl_appB rfl (.tmp 19) (.tmp 20) rfl sli_u u8_info HOE.out HSA.out (by omega) (by simp) rfl rfl ?_; intro v' w2 ho hg ht; rw [catF_zero, Nat.zero_add] at ho; have b2 := HOE.out.after hg ((Below.refl w1.heap.size w1).alloc (Nat.le_refl _) _) (by simp) (Nat.le_refl _); have B2 := Lib.hid b2; have HO2 := Lib.hid ho; have HSB := Lib.hid ((HK1.out.below (b2.mono B1.out.size))); clear ho hg ht b2) | (refine wpl_appB rfl (.tmp 21) (.tmp 22) rfl sli_u u8_info HO2.out HSB.out (by omega) B2.out.size rfl rfl ?_; intro v3 w3 ho3 hg3 ht3))
    have b3 := HO2.out.after hg3 B2.out B2.out.size (Nat.le_refl _)
    have B3 := Lib.hid b3
    have HC0 := Lib.hid (HK0.out.below (b3.mono B1.out.size))
    have HC1 := Lib.hid (HK1.out.below (b3.mono B1.out.size))
    have HT3 := Lib.hid (HT1.out.below b3 HT1.out.pos)
    have BW := Lib.hid (onto B1.out B1.out.size b3)
    have HS3 := Lib.hid BW.out.size
    obtain ⟨A', c', hv, hsl, hcm, -⟩ := ho3.sl
    subst hv
    have HSL := Lib.hid hsl
    have hc' : N + K ≤ c' := hsl.le
    clear ho3 hg3 ht3 b3 hsl hcm HOE HSA HO2 B2 HSB
    obtain ⟨D, hD⟩ : ∃ D, D = shaF kF iF a0 N := ⟨_, rfl⟩
    have HD := Lib.hid hD
    refine (hash_any a0 N c0 A0 _ HT3.out (HC0.out.more HS3.out) (by omega)).mono ?_
    rintro e w4 ⟨rfl, hb4⟩
    rw [← hD]
    clear hD
    have rz0 : row (w4.alloc (.cells (ba 32 D) 25)) w4.heap.size = some (ba 32 D) := row_alloc_at _ _ _ _ rfl
    have b34 : Below w3.heap.size w3 (w4.alloc (.cells (ba 32 D) 25)) := (show Below w3.heap.size w3 w4 from hb4).alloc hb4.size _
    clear hb4
    go_wp2_with fail
    obtain ⟨z, hz⟩ : ∃ z, z = w4.heap.size := ⟨_, rfl⟩
    obtain ⟨w5, hw5⟩ : ∃ w5, w5 = w4.alloc (.cells (ba 32 D) 25) := ⟨_, rfl⟩
    rw [← hw5, ← hz] at rz0
    rw [← hw5] at b34 ⊢
    rw [← hz]
    clear hw5 hz
    refine flow_seen [([0, 1, 2, 3, 4, 5, 7], 6, false), ([8, 9, 10, 11, 12, 13, 14, 15, 16, 17, 18, 19, 20, 22, 25], 21, false), ([], 23, false), ([], 24, false)] [26, 27, 28] (by kernel_rfl) (by kernel_rfl) (fun _ _ _ _ _ h => h) fun X => ?_
    have rz := carry X.below rz0
    have b36 := onto b34 b34.size X.below
    clear b34 rz0
    obtain ⟨w6, hw6⟩ : ∃ w6, w6 = X.val := ⟨_, rfl⟩
    rw [← hw6] at rz b36 ⊢
    clear hw6 X
    have B36 := Lib.hid b36
    have BW6 := Lib.hid (onto BW.out HS3.out b36)
    have HL6 := Lib.hid ((HSL.out.below b36).more b36.size)
    have H06 := Lib.hid ((HC0.out.below (b36.mono HS3.out)).more BW6.out.size)
    have H16 := Lib.hid ((HC1.out.below (b36.mono HS3.out)).more BW6.out.size)
    have HT6 := Lib.hid (HT3.out.below b36 HT3.out.pos)
    have RZ := Lib.hid rz
    have hupN := run_upto sli_u u8_i A' (N + K) c' N (by omega)
    have Q := After.row rz
    clear rz b36 HSL HC0 HC1 HT3 BW B3 B36
    simp only [wpFs, pk, List.getElem?_cons_zero, List.getElem?_cons_succ]
    repeat (go_big_quiet_step (fail))
    refine wpQuiet_nil ?_
    clear Q hupN
    go_wp2_with fail
    refine (hash_any a0 N c' A' _ HT6.out ((HL6.out.upto N (by omega)).congr fun i hi => by unfold catF; rw [if_pos hi]) (by omega)).mono ?_
    rintro e w7 ⟨rfl, hb7⟩
    rw [← HD.out]
    have RZ7 := Lib.hid (carry hb7 RZ.out)
    have BW7 := Lib.hid (onto BW6.out BW6.out.size hb7)
    have HL7 := Lib.hid ((HL6.out.below hb7).more hb7.size)
    have H07 := Lib.hid ((H06.out.below hb7).more hb7.size)
    have H17 := Lib.hid ((H16.out.below hb7).more hb7.size)
    have HT7 := Lib.hid (HT6.out.below hb7 HT6.out.pos)
    go_wp2_with fail
    refine ⟨.inr hb7, ?_⟩
    clear hb7 RZ BW6 HL6 H06 H16 HT6
    obtain ⟨SK, hSK⟩ : ∃ SK, SK = strOf K a1 := ⟨_, rfl⟩
    have hx : eqB 32 D D = true := eqB_refl _ _
    have hfrom := run_from sli_u u8_i A' (N + K) c' N (by omega)
    rw [show N + K - N = K by omega] at hfrom
    have cv1 : ∀ x : After w7, (convert 22 9 (.slice (cutA A' c' N) K (c' - N))).run Tryd.prog x.val = .ok (.string SK) x.val := fun x => by
      have h := (After.sl HL7.out x).from_ N (by omega)
      rw [show N + K - N = K by omega] at h
      rw [hSK]
      exact run_str sli_u u8_u str_u (h.congr (b' := a1) fun i hi => by unfold offF catF; rw [if_neg (by omega), Nat.add_sub_cancel_left])
    have cv2 : ∀ x : After w7, (convert 22 9 (.slice A1 K c1)).run Tryd.prog x.val = .ok (.string SK) x.val := fun x => by
      rw [hSK]; exact run_str sli_u u8_u str_u (After.sl H17.out x)
    have Q := After.row RZ7.out
    clear hSK
    show wpQuiet _ _ _ _ _ _
    repeat (first | rw [hx] | go_big_quiet_step (fail))
    refine wpQuiet_nil ?_
    clear Q cv1 cv2 hfrom
    go_wp2_with fail
    have hb8 : Below w7.heap.size w7 (w7.alloc (.cells #[] 5)) := (Below.refl _ _).alloc (Nat.le_refl _) _
    refine ⟨.inr hb8, ?_⟩
    have HSA := Lib.hid (H07.out.below hb8)
    have HNO := Lib.hid (Sl.nothing (w7.alloc (.cells #[] 5)) 0 (some ⟨w7.heap.size, 0, none⟩) 0 nF)
    show wpQuiet _ _ _ _ _ _
    refine wpQuiet_nil ?_
    go_wp2_with (at_builtin; refine wpl_appF_w (by rfl) (.tmp 47) (.tmp 48) rfl sli_u u8_info HNO.out (Nat.zero_le _) (Nat.zero_le _) (fun e => by cases e) HSA.out (by omega) rfl rfl ?_; intro A9 c9 w9 hs9 hc9 hg9)
    rw [catF_zero, Nat.zero_add] at hs9
    have b9 : Below (w7.alloc (.cells #[] 5)).heap.size (w7.alloc (.cells #[] 5)) w9 := Below.of_grown hg9
    have b9' : Below (w7.heap.size + 1) (w7.alloc (.cells #[] 5)) w9 := by simpa using b9
    have HS9 := Lib.hid hs9
    have B9 := Lib.hid (onto hb8 (by simp) b9)
    have HT9 := Lib.hid (HT7.out.below B9.out HT7.out.pos)
    try rw [Nat.zero_add]
    refine ⟨b9', ?_⟩
    clear hg9 hs9 hc9 hb8 HNO HSA HT7 b9 b9'
    show wpQuiet _ _ _ _ _ _
    refine wpQuiet_nil ?_
    go_wp2_with fail
    refine (hash_any a0 N c9 A9 _ HT9.out HS9.out (by omega)).mono ?_
    rintro e w10 ⟨rfl, hb10⟩
    rw [← HD.out]
    have hb10' : Below w9.heap.size w9 w10 := hb10
    have BW10 := Lib.hid (onto (onto BW7.out BW7.out.size B9.out) (by have := BW7.out.size; have := B9.out.size; omega) hb10')
    go_wp2_with fail
    refine ⟨hb10', ?_⟩
    clear hb10 hb10'
    show wpQuiet _ _ _ _ _ _
    repeat (first | rw [hx] | go_big_quiet_step (fail))
    refine wpQuiet_nil ?_
    go_wp2_with fail
    go_ret
    exact ⟨rfl, BW10.out⟩

set_option maxRecDepth 100000 in
theorem lifted (os : Os) (started : os.Started) (H : Type) (enc : TypeId × Value → H) :
    ReturnsInHanded {} Tryd.checked os 6 .any (fun w args => (Rows.shaApartSpec.pre enc Tryd.prog Tryd.f6 [] false w args ∧ laidMetH Tryd.prog laidL w) ∧ sizedMet enc Tryd.prog Tryd.f6 (OpenSpec.ofChange Rows.shaApartSpec) false w args) (Rows.shaApartSpec.post enc Tryd.prog Tryd.f6 false true false false) := by
  refine returnsInHanded_of_change_and (C := Tryd.checked) (X := fun w _ => laidMetH Tryd.prog laidL w) (fun _ _ _ hh h => h.of_heap hh) own started (by kernel_rfl) Tryd.func6
    (ChangeSpec.witness_shaped (enc := enc) (C := Tryd.checked) (os := os) (X := fun w _ => laidMetH Tryd.prog laidL w) false (World.doorLaid Tryd.prog 14 os) #[.slice none 0 0, .slice none 0 0] 8 rfl (World.shaped_of_RefB (by kernel_rfl) (by kernel_rfl)) (by kernel_rfl) (by kernel_rfl) (by kernel_rfl) (door_met os _)) ?_
  intro W base args ds gs before hval0 hW _ _ hL _
  have hval : ∀ (j : Nat) t v, Tryd.f6.params[j]? = some t → args[j]? = some v → Value.okWide Tryd.prog W .any base t v := hval0
  have hW' := hW
  obtain ⟨p, q, hA0, hV, rfl, hfz, hnd⟩ := hW
  have hA : DataW.TrodAll enc Tryd.prog W 0 (fun _ => true) true Tryd.f6.params.toList args.toList ds p := hA0
  rw [Tryd.params6] at hA hval
  obtain ⟨v0, vs0, d0, ds0, p0, q0, hargs, rfl, rfl, h0, r0⟩ := trodAll_cons hA
  obtain ⟨v1, vs1, d1, ds1, p1, q1, rfl, rfl, rfl, h1, r1⟩ := trodAll_cons r0
  obtain ⟨rfl, rfl, rfl⟩ := trodAll_nil r1
  obtain rfl : args = #[v0, v1] := by cases args; simp_all
  obtain ⟨rfl, rfl⟩ := trodVars_none hV
  have k0 := h0
  have lt0 : ∀ x ∈ p0, x.block < W.heap.size := by obtain ⟨m, hm⟩ := k0; exact DataW.trod_lt m _ _ _ hm
  obtain ⟨A0, n0, c0, a0, rfl, hs0, hm0⟩ := open_sl Tryd.underlying22 Tryd.underlying5 (by kernel_rfl) (hval 0 22 v0 rfl rfl) h0
  have k1 := h1
  have lt1 : ∀ x ∈ p1, x.block < W.heap.size := by obtain ⟨m, hm⟩ := k1; exact DataW.trod_lt m _ _ _ hm
  obtain ⟨A1, n1, c1, a1, rfl, hs1, hm1⟩ := open_sl Tryd.underlying22 Tryd.underlying5 (by kernel_rfl) (hval 1 22 v1 rfl rfl) h1
  clear hA0 hval0
  refine (walk a0 n0 c0 A0 a1 n1 c1 A1 W hs0 hm0 hs1 hm1 (tab_of hL)).mono fun e W' ⟨he, bel⟩ => ?_
  subst he
  exact ⟨_, rfl, _, _, _, [], _, [], hW', trodAll_mk1 (shut_bool Tryd.underlying4 _), (trodAll_cons_mk (Below.trod laidOut (by kernel_rfl) (of_decide_eq_true (by kernel_rfl)) k0 bel lt0) (trodAll_cons_mk (Below.trod laidOut (by kernel_rfl) (of_decide_eq_true (by kernel_rfl)) k1 bel lt1) trodAll_mk0)), rfl, bel.frame _, fun h => by cases h⟩

theorem over : Rows.shaApartRow.holds Tryd.pinned (OpenSpec.ofChange Rows.shaApartSpec) :=
  OpenClaim.holds_of_wide 6 Tryd.f6 rfl rfl rfl rfl rfl rfl rfl ⟨rfl, rfl, rfl, rfl, rfl⟩ rfl rfl rfl rfl rfl (by kernel_rfl) Tryd.func6 (by kernel_rfl)
    (of_decide_eq_true (by kernel_rfl)) (by unfold Func.isWrapper; first | (rw [if_pos (by decide +kernel)]; kernel_rfl) | (rw [if_neg (by decide +kernel)]; exact ⟨rfl, rfl⟩))
    (fun os started H enc _ => lifted os started H enc)

theorem proved : Rows.ShaApartCardSaid :=
  Claim7.holds_tied_plain_at .later [] [.data] true (true, "41cab3536d7d8cfc1298a26681f7246bf960c365c55272f18fb8baad2e179fa4") false
    over (fun _ h => by cases h) (by kernel_rfl) (fun _ h => by cases h) shaApart_row_tie rfl ⟨rfl, rfl⟩ (by kernel_rfl) rfl
    (fun f fn hf hfn => by
      obtain rfl : f = 6 := Option.some.inj ((show Tryd.prog.funcNamed "strongroom/strongroomlaw05.ShaApart" = some 6 by kernel_rfl).symm.trans hf) |>.symm
      obtain rfl : fn = Tryd.f6 := (Option.some.inj (Tryd.func6.symm.trans hfn)).symm
      exact ⟨by kernel_rfl, fun j t ht => by
        rw [Tryd.params6] at ht
        have hm : t ∈ [22] := by simpa using Array.mem_of_getElem? ht
        have hall : ([22].all fun u => !Tryd.prog.wantsStandIn u) = true := by kernel_rfl
        exact (show Tryd.prog.wantsStandIn t = false by simpa using List.all_eq_true.1 hall t hm)⟩)
    (by kernel_rfl)
#print axioms proved
end Go.Proofs.YtjebkokkgkkogaaDoor.shaApart

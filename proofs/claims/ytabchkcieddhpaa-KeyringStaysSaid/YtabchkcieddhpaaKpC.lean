/- Contracts of keyring's atVersion, and of the doers of Switch, Destroy, Material. -/
import Derived.Test.YtabchkcieddhpaaKpB
namespace Go.Proofs.Ytabchkcieddhpaa.Oct
open Go.ChangeShapes Go.WideShapes Go.ChangeAt Go.RowKit
set_option linter.unusedVariables false

theorem EntrK.num {F : FuncId} {P Q : Int → World → Prop} {e : Ending} {w : World} (h : Num P e w) (hq : ∀ E w', P E w' → Q E w') : Num Q e w := by obtain ⟨E, h1, h2⟩ := h; exact ⟨E, h1, hq _ _ h2⟩
theorem ent_vv : EntrK 43 := entrK Try.func43 (by kernel_rfl) (by kernel_rfl)
set_option maxRecDepth 20000 in
theorem pav_yes (B : Nat) (c : Array Value) (K : Ks) (i v : Nat) (G : FuncId) (caps : Array Value) (w : World) (P : Int → World → Prop) (hr : row w B = some c) (hk : KsC c K) (hi : i < K.length) (h8 : i < 8) (hv : v < K[i].l.length) (hen : EntrK G)
    (hG : ∀ w1, Below w.heap.size w w1 → Calls Try.prog G (#[.pointer (some ⟨B, i * 138, none⟩), .pointer (some ⟨B, i * 138 + 1 + v * 34, none⟩)] ++ caps) w1 (Num P)) :
    Calls Try.prog 29 #[.pointer (some ⟨B, 0, none⟩), .int .i64 ((i : Int) + 1), .int .i64 ((v : Int) + 1), .func (.func G) #[] caps] w (Num P) := by
  have hky := hk.key i h8
  rw [rgI_lt hi] at hky
  have hf := hky.few
  obtain ⟨w1, hw1⟩ : ∃ w1, w1 = w.alloc (.cells #[.int .i64 ((v : Int) + 1)] 3) := ⟨_, rfl⟩
  obtain ⟨w2, hw2⟩ : ∃ w2, w2 = w1.alloc (.cells #[.func (.func G) #[] caps] 76) := ⟨_, rfl⟩
  have b1 : Below w.heap.size w w1 := by rw [hw1]; exact (Below.refl w.heap.size w).alloc (by simp) _
  have b2 : Below w1.heap.size w1 w2 := by rw [hw2]; exact (Below.refl _ _).alloc (by simp) _
  have rv : row w1 w.heap.size = some #[.int .i64 ((v : Int) + 1)] := by rw [hw1]; exact row_alloc_at _ _ _ _ rfl
  have rf : row w2 w1.heap.size = some #[.func (.func G) #[] caps] := by rw [hw2]; exact row_alloc_at _ _ _ _ rfl
  have rb := carry b2 (carry b1 hr)
  have rv2 := carry b2 rv
  have hs : w1.heap.size = w.heap.size + 1 := by rw [hw1]; simp
  have hcall := pvv_yes B (i * 138) w.heap.size w1.heap.size K[i].l.length v G caps w2 P (by rw [cell_row rb]; exact hky.cnt) (by rw [cell_row rv2]; rfl) (by rw [cell_row rf]; rfl) hv (by omega) (row_lt rb) (row_lt rv2) (row_lt rf) hen
    (fun w3 h3 => hG w3 (onto (onto b1 b1.size b2) (Nat.le_trans b1.size b2.size) h3))
  rw [hs] at hcall
  have HC := Lib.hid (pat_yes B K i _ #[.pointer (some ⟨w.heap.size, 0, none⟩), .pointer (some ⟨w.heap.size + 1, 0, none⟩)] w2 P (hk.cell B rb) hi h8 ent_vv hcall)
  have HW1 := Lib.hid hw1
  have HW2 := Lib.hid hw2
  clear hcall hG hky rv rf rb rv2 b1 b2 hw1 hw2
  go_enter Try.func29, Try.ntmps29
  go_wp2_with fail
  rw [← HW1.out, ← HW2.out]
  refine HC.out.mono ?_
  rintro e w3 ⟨E, rfl, hP⟩
  go_wp2_with fail
  exact bodyPost_ret (v := .int .i64 E) (by simp [results, Try.results29, go_sem]) rfl ⟨E, rfl, hP⟩
set_option maxRecDepth 20000 in
theorem pav_no (B : Nat) (c : Array Value) (K : Ks) (id ver : Int) (G : FuncId) (caps : Array Value) (w : World) (hr : row w B = some c) (hk : KsC c K) (h8 : K.length ≤ 8) (hno : hasV K id ver = false) :
    Calls Try.prog 29 #[.pointer (some ⟨B, 0, none⟩), .int .i64 id, .int .i64 ver, .func (.func G) #[] caps] w fun e w' => e = .returned (.int .i64 130) ∧ Below w.heap.size w w' := by
  obtain ⟨w1, hw1⟩ : ∃ w1, w1 = w.alloc (.cells #[.int .i64 ver] 3) := ⟨_, rfl⟩
  obtain ⟨w2, hw2⟩ : ∃ w2, w2 = w1.alloc (.cells #[.func (.func G) #[] caps] 76) := ⟨_, rfl⟩
  have b1 : Below w.heap.size w w1 := by rw [hw1]; exact (Below.refl w.heap.size w).alloc (by simp) _
  have b2 : Below w1.heap.size w1 w2 := by rw [hw2]; exact (Below.refl _ _).alloc (by simp) _
  have rv : row w1 w.heap.size = some #[.int .i64 ver] := by rw [hw1]; exact row_alloc_at _ _ _ _ rfl
  have rb := carry b2 (carry b1 hr)
  have rv2 := carry b2 rv
  have b3 := onto b1 b1.size b2
  have hcal : Calls Try.prog 25 #[.pointer (some ⟨B, 0, none⟩), .int .i64 id, .func (.func 43) #[] #[.pointer (some ⟨w.heap.size, 0, none⟩), .pointer (some ⟨w.heap.size + 1, 0, none⟩)]] w2 (Num fun E w' => E = 130 ∧ Below w.heap.size w w') := by
    cases hok : hasK K id
    · exact (pat_no B K id _ w2 (hk.cell B rb) hok).mono fun e w' h => ⟨130, h.1, rfl, h.2 ▸ b3⟩
    · obtain ⟨h1, h2⟩ := hasK_iff.1 hok
      obtain ⟨i, hi⟩ : ∃ i : Nat, id = (i : Int) + 1 := ⟨(id - 1).toNat, by omega⟩
      subst hi
      have hlt : i < K.length := by omega
      have hky := hk.key i (by omega)
      rw [rgI_lt hlt] at hky
      have hrg : rgAt K ((i : Int) + 1) = K[i] := rgAt_get i hlt (by omega)
      refine pat_yes B K i _ #[.pointer (some ⟨w.heap.size, 0, none⟩), .pointer (some ⟨w.heap.size + 1, 0, none⟩)] w2 _ (hk.cell B rb) hlt (by omega) ent_vv ?_
      refine (pvv_no B (i * 138) w.heap.size (w.heap.size + 1) K[i].l.length ver (.bool true) w2 (by rw [cell_row rb]; exact hky.cnt) (by rw [cell_row rv2]; rfl) (fun e => ?_) (row_lt rb) (row_lt rv2)).mono fun e w' h => ⟨130, h.1, rfl, onto b3 (Nat.le_trans b1.size b2.size) h.2⟩
      rw [hasV_iff.2 ⟨⟨h1, h2⟩, by rw [hrg]; exact e⟩] at hno
      cases hno
  have HC := Lib.hid hcal
  have HW1 := Lib.hid hw1
  have HW2 := Lib.hid hw2
  clear hcal rv rb rv2 b1 b2 b3 hw1 hw2
  go_enter Try.func29, Try.ntmps29
  go_wp2_with fail
  rw [← HW1.out, ← HW2.out]
  refine HC.out.mono ?_
  rintro e w3 ⟨E, rfl, rfl, hP⟩
  go_wp2_with fail
  go_ret
  exact ⟨rfl, hP⟩

/- the doers -/
set_option maxRecDepth 20000 in
theorem psw1_any (B o O : Nat) (on x : Bool) (w : World) (h1 : w.cell? ⟨B, o, none⟩ = some (.bool x)) (h2 : w.cell? ⟨O, 0, none⟩ = some (.bool on)) (hf : w.frozen? ⟨B, o, none⟩ = false) :
    Calls Try.prog 31 #[.pointer (some ⟨B, o, none⟩), .pointer (some ⟨O, 0, none⟩)] w fun e w' => e = .returned (.int .i64 0) ∧ w' = w.setCell ⟨B, o, none⟩ (.bool (!on)) := by
  go_enter Try.func31, Try.ntmps31
  go_wp2_with fail
  go_ret
  exact ⟨rfl, rfl⟩
/-- a version's cells at its end -/
def endC (c : Array Value) (q : Nat) : Array Value := spl (c.setIfInBounds (q + 33) (.bool true)) q (ba 32 fun _ => 0#8).toList
set_option maxRecDepth 20000 in
theorem pds1_any (B o q : Nat) (g : Bool) (c : Array Value) (w : World) (hr : row w B = some c) (h1 : c[q + 33]? = some (.bool g)) (hs : q + 34 ≤ c.size) :
    Calls Try.prog 30 #[.pointer (some ⟨B, o, none⟩), .pointer (some ⟨B, q, none⟩)] w fun e w' => e = .returned (.int .i64 (if g = true then 132 else 0)) ∧ w' = (if g = true then w else w.setRow B (endC c q)) := by
  have k1 : w.cell? ⟨B, q + 33, none⟩ = some (.bool g) := by rw [cell_row hr]; exact h1
  have hf : w.frozen? ⟨B, q + 33, none⟩ = false := froz_row hr _
  cases g
  · obtain ⟨w1, hw1⟩ : ∃ w1, w1 = w.setCell ⟨B, q + 33, none⟩ (.bool true) := ⟨_, rfl⟩
    have e1 : w1 = w.setRow B (c.setIfInBounds (q + 33) (.bool true)) := by rw [hw1, setCell_row hr]
    have r1 : row w1 B = some (c.setIfInBounds (q + 33) (.bool true)) := by rw [e1]; exact row_setRow hr _
    have hst : stR Try.prog 32 32 w1 B q (.agg (ba 32 fun _ => 0#8)) (some (c.setIfInBounds (q + 33) (.bool true))) = .ok () (w1.setRow B (endC c q)) :=
      stR_spl (by rw [Array.size_setIfInBounds]; omega) (ba_size _ _) (ones_ba _ _)
    have HW := Lib.hid (show w1.setRow B (endC c q) = w.setRow B (endC c q) by rw [e1, setRow_setRow])
    have HW1 := Lib.hid hw1
    rw [hw1] at r1 hst HW
    clear hw1 e1 hr h1
    simp only [Bool.false_eq_true, if_false]
    go_enter Try.func30, Try.ntmps30
    go_wp2_with fail
    go_ret
    exact ⟨rfl, HW.out⟩
  · simp only [if_true]
    go_enter Try.func30, Try.ntmps30
    go_wp2_with fail
    go_ret
    exact ⟨rfl, rfl⟩
set_option maxRecDepth 20000 in
theorem pmt1_any (B o v M : Nat) (r : Rg) (c : Array Value) (f : Bf) (w : World) (hr : row w B = some c) (hk : KyC c o r) (hv : v < r.l.length) (hs : o + 138 ≤ c.size) (hM : row w M = some (ba 32 f)) :
    Calls Try.prog 42 #[.pointer (some ⟨B, o, none⟩), .pointer (some ⟨B, o + 1 + v * 34, none⟩), .pointer (some ⟨M, 0, none⟩)] w fun e w' => e = .returned (.int .i64 (rfE r.off r.l[v].g)) ∧ w' = (if rfE r.off r.l[v].g = 0 then w.setRow M (ba 32 r.l[v].m) else w) := by
  have HF := Lib.hid (prefuse_any B o (o + 1 + v * 34) r.off r.l[v].g w (by rw [cell_row hr]; exact hk.off) (by rw [cell_row hr]; exact hk.ldG hv))
  have hld := hk.ldM (P := Try.prog) (t := 32) (w := w) (b := B) hv hs
  obtain ⟨E, hE⟩ : ∃ E, E = rfE r.off r.l[v].g := ⟨_, rfl⟩
  obtain ⟨y, hy⟩ : ∃ y, y = r.l[v].m := ⟨_, rfl⟩
  rw [← hE] at HF ⊢
  rw [← hy] at hld ⊢
  clear hk hE hy hv
  by_cases h0 : E = 0
  · subst h0
    rw [if_pos rfl]
    go_enter Try.func42, Try.ntmps42
    go_wp2_with fail
    refine HF.out.mono ?_
    rintro e w1 ⟨rfl, rfl⟩
    go_wp2_with fail
    go_ret
    exact ⟨rfl, rfl⟩
  · rw [if_neg h0]
    have d1 : (E != 0) = true := by simpa using h0
    have d2 : (E == 0) = false := by simpa using h0
    go_enter Try.func42, Try.ntmps42
    go_wp2_with fail
    refine HF.out.mono ?_
    rintro e w1 ⟨rfl, rfl⟩
    go_wp2_with fail
    go_ret
    exact ⟨rfl, rfl⟩
end Go.Proofs.Ytabchkcieddhpaa.Oct

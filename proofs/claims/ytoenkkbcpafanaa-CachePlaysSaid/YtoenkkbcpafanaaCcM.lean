/- The laws' own of and refs. -/
import Derived.Test.YtoenkkbcpafanaaCcL
import Derived.Test.YtoenkkbcpafanaaCcO


namespace Go.Proofs.Ytoenkkbcpafanaa.caches
set_option linter.unusedVariables false
set_option linter.unusedSimpArgs false
open Go.RowKit Go.Proofs.Ytoenkkbcpafanaa.base Go.Proofs.Ytoenkkbcpafanaa.vers Go.Proofs.Ytoenkkbcpafanaa.nodes Go.Proofs.Ytoenkkbcpafanaa.trees

def ofN (n : Int) : Nat := (Int.tmod n 40).natAbs
def ofP (n : Int) : R := ⟨ofN n % 7, ((ofN n % 3 : Nat) : Int), ((ofN n : Nat) : Int), 1⟩
theorem ofN_lt (n : Int) : ofN n < 40 := by
  unfold ofN
  rw [Int.natAbs_tmod]
  exact Nat.mod_lt _ (by decide)
theorem ofP_fits (n : Int) : (ofP n).fits := by
  have h := ofN_lt n
  have h1 := Nat.mod_lt (ofN n) (y := 7) (by decide)
  have h2 := Nat.mod_lt (ofN n) (y := 3) (by decide)
  refine ⟨?_, ⟨?_, ?_⟩, ⟨?_, ?_⟩, ⟨?_, ?_⟩⟩ <;> simp only [ofP] <;> omega
set_option maxRecDepth 100000 in
set_option maxHeartbeats 4000000 in
theorem of_any (n : Int) (w : World) (hn : Iok n) : Calls Try.prog 34 #[.int .i64 n] w fun e w' => e = .returned (ofP n).val ∧ Below w.heap.size w w' := by
  have h40 := ofN_lt n
  obtain ⟨t, ht⟩ : ∃ t, Int.tmod n 40 = t := ⟨_, rfl⟩
  have hN : ofN n = t.natAbs := by unfold ofN; rw [ht]
  obtain ⟨k, hk⟩ : ∃ k, ofN n = k := ⟨_, rfl⟩
  rw [hk] at hN h40
  have hR : (ofP n).val = .agg #[.int .u64 ((k % 7 : Nat) : Int), .int .i64 ((k % 3 : Nat) : Int), .int .i64 (k : Int), .int .i64 1] := by simp only [ofP, hk]
  rw [hR]
  have HT := vers.lay ht
  clear hR hk ht
  have et : IntKind.i64.wrap t = t := IntWalk.i64_in _ (by omega)
  have e40 : IntKind.i64.wrap (Int.tmod n 40) = t := by rw [HT.out]; exact et
  have bA : Below w.heap.size w (w.alloc (.cells #[.int .u64 0, .int .i64 0, .int .i64 0, .int .i64 0] 27)) := (Below.refl _ _).alloc (Nat.le_refl _) _
  have kA := Blk.new w 27 #[.int .u64 0, .int .i64 0, .int .i64 0, .int .i64 0]
  have ek : IntKind.i64.wrap (k : Int) = (k : Int) := IntWalk.i64_in _ (by omega)
  have t7 : Int.tmod (k : Int) 7 = ((k % 7 : Nat) : Int) := rfl
  have m7 : (k : Int) % 7 = ((k % 7 : Nat) : Int) := rfl
  have m3 : (k : Int) % 3 = ((k % 3 : Nat) : Int) := rfl
  have t3 : Int.tmod (k : Int) 3 = ((k % 3 : Nat) : Int) := rfl
  have h7 := Nat.mod_lt k (y := 7) (by decide)
  have h3 := Nat.mod_lt k (y := 3) (by decide)
  have w7 : IntKind.i64.wrap ((k % 7 : Nat) : Int) = ((k % 7 : Nat) : Int) := IntWalk.i64_in _ (by omega)
  have w3 : IntKind.i64.wrap ((k % 3 : Nat) : Int) = ((k % 3 : Nat) : Int) := IntWalk.i64_in _ (by omega)
  have u7 : IntKind.u64.wrap ((k % 7 : Nat) : Int) = ((k % 7 : Nat) : Int) := by rw [IntKind.wrap_u64]; omega
  have f0 := kA.frozen 0
  have f1 := kA.frozen 1
  have f2 := kA.frozen 2
  have f3 := kA.frozen 3
  have lA := kA.lt
  obtain ⟨a0, a1, a2, a3⟩ : _ ∧ _ ∧ _ ∧ _ := ⟨kA.cell 0, kA.cell 1, kA.cell 2, kA.cell 3⟩
  simp only [List.getElem?_toArray, List.getElem?_cons_zero, List.getElem?_cons_succ] at a0 a1 a2 a3
  have kz := (((kA.put 0 (.int .u64 ((k % 7 : Nat) : Int))).put 1 (.int .i64 ((k % 3 : Nat) : Int))).put 2 (.int .i64 (k : Int))).put 3 (.int .i64 1)
  have bz := (((bA.setCell (p := ⟨w.heap.size, 0, none⟩) (Nat.le_refl _) (.int .u64 ((k % 7 : Nat) : Int))).setCell (p := ⟨w.heap.size, 1, none⟩) (Nat.le_refl _) (.int .i64 ((k % 3 : Nat) : Int))).setCell (p := ⟨w.heap.size, 2, none⟩) (Nat.le_refl _) (.int .i64 (k : Int))).setCell (p := ⟨w.heap.size, 3, none⟩) (Nat.le_refl _) (.int .i64 1)
  simp only [List.setIfInBounds_toArray, List.set_cons_zero, List.set_cons_succ] at kz
  obtain ⟨z0, z1, z2, z3⟩ : _ ∧ _ ∧ _ ∧ _ := ⟨kz.cell 0, kz.cell 1, kz.cell 2, kz.cell 3⟩
  simp only [List.getElem?_toArray, List.getElem?_cons_zero, List.getElem?_cons_succ] at z0 z1 z2 z3
  have HZ := vers.lay (And.intro z0 (And.intro z1 (And.intro z2 z3)))
  have HB := vers.lay bz
  clear kz bz z0 z1 z2 z3 kA
  generalize k % 7 = k7 at *
  generalize k % 3 = k3 at *
  by_cases hneg : t < 0
  · obtain rfl : t = -(k : Int) := by omega
    have d1 : decide (-(k : Int) < 0) = true := decide_eq_true hneg
    have en : IntKind.i64.wrap (- -(k : Int)) = (k : Int) := by rw [Int.neg_neg]; exact ek
    have en2 : IntKind.i64.wrap (k : Int) = (k : Int) := ek
    have h41 := HT.out
    clear hN HT e40
    go_enter Try.func34, Try.ntmps34
    go_wp2_with fail
    refine bodyPost_ret (v := .agg #[.int .u64 (k7 : Int), .int .i64 (k3 : Int), .int .i64 (k : Int), .int .i64 1]) (by obtain ⟨z0, z1, z2, z3⟩ := HZ.out; simp [results, Try.results34, go_sem, z0, z1, z2, z3]) rfl ⟨rfl, (Below.refl _ _).alloc (Nat.le_refl _) _⟩
  · obtain rfl : t = (k : Int) := by omega
    have d1 : decide ((k : Int) < 0) = false := decide_eq_false hneg
    have h41 := HT.out
    clear hN HT e40
    go_enter Try.func34, Try.ntmps34
    go_wp2_with fail
    refine bodyPost_ret (v := .agg #[.int .u64 (k7 : Int), .int .i64 (k3 : Int), .int .i64 (k : Int), .int .i64 1]) (by obtain ⟨z0, z1, z2, z3⟩ := HZ.out; simp [results, Try.results34, go_sem, z0, z1, z2, z3]) rfl ⟨rfl, (Below.refl _ _).alloc (Nat.le_refl _) _⟩
end Go.Proofs.Ytoenkkbcpafanaa.caches

/- told, pick, step, awake of the laws. -/
import Derived.Test.YthmamlghmagmkaaPwB
import Derived.BigQuiet
import Derived.Deep.QuietTactic


namespace Go.Proofs.Ythmamlghmagmkaa.powers
set_option linter.unusedVariables false
set_option linter.unusedSimpArgs false
open Go.RowKit Go.Proofs.Ythmamlghmagmkaa.base
theorem norms (S : World → Prop) (w : World) (h : S w) : ∃ N : World → World, (∀ n, S (N n)) ∧ ∀ w', S w' → ∃ n, w' = N n := by
  refine ⟨fun n => @ite _ (S n) (Classical.propDecidable _) n w, fun n => ?_, fun w' hw => ⟨w', ?_⟩⟩
  · by_cases hn : S n
    · simp [hn]
    · simpa [hn] using h
  · simp [hw]
theorem region_class {P : Program} {id : Nat} {Q : Exit → Act → World → Prop} {a : Act} {w : World} {l : List Oper} (N : World → World) (hm : P.follows .mixedOrders = true) (hB : Region.lexB .any l.toArray = true) (hC : ∃ n, w.drew = N n)
    (h : wpQuiet P l.toArray (fun w' => ∃ n, w' = N n) (fun a' => ∀ w', (∃ n, w' = N n) → Q .normal a' w') l a) : (Code.region id l.toArray true).wp P Q a w :=
  wp_region_quiet (C := fun w' => ∃ n, w' = N n) hm hB hC (by simpa using h)
theorem call_same {P : Program} {f : FuncId} {args : Array Value} {v : Value} {N : World → World} {n : World}
    (hc : Calls P f args (N n) fun e w' => e = .returned v ∧ w' = N n) : Calls P f args (N n) fun e w'' => e = .returned v ∧ ∃ m, w'' = N m :=
  hc.mono fun _ _ ⟨he, hb⟩ => ⟨he, n, hb⟩
def none_ (_ : Nat) : Prop := False
theorem St.drew {S : Nat → Prop} {a w : World} (h : St S a w) : St S a w.drew := ⟨h.os, h.tape, h.output, h.size, h.block⟩
variable {g d : Nat} {L W M V : Int} {w : World}

def pk (c : Int) (n : Nat) : Nat := (if Int.tmod c n < 0 then Int.tmod c n + n else Int.tmod c n).toNat
theorem pk_lt (c : Int) (n : Nat) (hn : 0 < n) : pk c n < n := by
  have l2 : Int.tmod c n < (n : Int) := Int.tmod_lt_of_pos c (by omega)
  unfold pk
  split <;> omega

def WR (W : Int) : Prop := -9223372036854775808 ≤ W ∧ W ≤ 9223372036854775807
theorem wr_nx (W : Int) : WR (nx W) := by unfold WR nx wrap64; omega
theorem wr_sp {L W : Int} (h : WR W) : WR (wSp L W) := by unfold wSp; split; exact h; exact wr_nx W
def two (g d k : Nat) : Prop := k = g ∨ k = d
/-- where a power and the document's stand behind a step -/
def StepP (g d : Nat) (L W M V : Int) (w : World) (e : Ending) (w' : World) : Prop :=
  ∃ b L' W' M' V', e = .returned (.bool b) ∧ Blk w' g 238 (PC L' W') ∧ Blk w' d 189 (DC (bL M') (aL M') V') ∧ In L' ∧ In M' ∧ (L = M → W = V → b = true ∧ L' = M' ∧ W' = V') ∧ (WR W → WR W') ∧ St (two g d) w w'

end Go.Proofs.Ythmamlghmagmkaa.powers

/- A region that draws its order while its calls make memory: one walk, in a class of worlds that know one quota's box. -/
import Derived.Test.YtmbhfibldklecaaQuA
import Derived.BigQuiet
import Derived.Deep.QuietTactic


namespace Go.Proofs.Ytmbhfibldklecaa.quotas
set_option linter.unusedVariables false
set_option linter.unusedSimpArgs false
open Go.RowKit Go.Proofs.Ytmbhfibldklecaa.base

theorem norms (S : World → Prop) (w : World) (h : S w) : ∃ N : World → World, (∀ n, S (N n)) ∧ ∀ w', S w' → ∃ n, w' = N n := by
  refine ⟨fun n => @ite _ (S n) (Classical.propDecidable _) n w, fun n => ?_, fun w' hw => ⟨w', ?_⟩⟩
  · by_cases hn : S n
    · simp [hn]
    · simpa [hn] using h
  · simp [hw]

theorem region_class {P : Program} {id : Nat} {Q : Exit → Act → World → Prop} {a : Act} {w : World} {l : List Oper} (N : World → World) (hm : P.follows .mixedOrders = true) (hB : Region.lexB .any l.toArray = true) (hC : ∃ n, w.drew = N n)
    (h : wpQuiet P l.toArray (fun w' => ∃ n, w' = N n) (fun a' => ∀ w', (∃ n, w' = N n) → Q .normal a' w') l a) : (Code.region id l.toArray true).wp P Q a w :=
  wp_region_quiet (C := fun w' => ∃ n, w' = N n) hm hB hC (by simpa using h)

theorem call_class {P : Program} {f : FuncId} {args : Array Value} {v : Value} {w0 : World} {g : Nat} {a b c d e f' h : Int} {N : World → World} {n : World} (h1 : ∀ n, In7 w0 g a b c d e f' h (N n)) (h2 : ∀ w', In7 w0 g a b c d e f' h w' → ∃ n, w' = N n)
    (hc : Calls P f args (N n) fun e w' => e = .returned v ∧ Below (N n).heap.size (N n) w') : Calls P f args (N n) fun e w'' => e = .returned v ∧ ∃ m, w'' = N m :=
  hc.mono fun _ _ ⟨he, hb⟩ => ⟨he, h2 _ ((h1 n).next hb)⟩
end Go.Proofs.Ytmbhfibldklecaa.quotas

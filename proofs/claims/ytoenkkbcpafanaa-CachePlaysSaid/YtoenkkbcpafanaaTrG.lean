/- Append of one element to a row of the call's own, by blocks. -/
import Derived.Test.YtoenkkbcpafanaaTrA
import Derived.Maps.AppendAt


namespace Go.Proofs.Ytoenkkbcpafanaa.trees
set_option linter.unusedVariables false
set_option linter.unusedSimpArgs false
open Go.RowKit Go.Proofs.Ytoenkkbcpafanaa.base Go.Proofs.Ytoenkkbcpafanaa.vers Go.Proofs.Ytoenkkbcpafanaa.nodes

section
variable {P : Program}
theorem run_put1 {e tS ty : TypeId} {i0 : TypeInfo} {z : Value} {size bytes : Nat} (hun : P.underlying tS = some (.slice e)) (hi0 : P.info? e = some i0) (hz0 : i0.zero = some z) (hz1 : i0.size = size) (hz2 : i0.bytes = bytes) (hzs : z.cells.size = size) (hsz : 0 < size)
    {w : World} {v : Value} {n : Nat} {xs : List Value} {cs : Array Value} (hown : w.ownsRow 0 e size v n xs) (hcs : cs.toList.length = size) (h1 : ∀ u ∈ cs.toList, u.oneCell' = true) (hlen : (n + 1) * bytes ≤ 140737488355328) (hmax : n + 1 ≤ maxLen) :
    ∃ v' w', (Builtin.append_ #[tS, tS] ty #[v, .slice (some ⟨w.heap.size, 0, none⟩) 1 1]).run P (w.alloc (.cells cs e)) = .ok v' w' ∧ w'.ownsRow 0 e size v' (n + 1) (xs ++ cs.toList) ∧ Keep (fun g => v.ownBlock = some g) w w' ∧ (∀ g, v'.ownBlock = some g → v.ownBlock = some g ∨ (w.heap.size ≤ g ∧ g < w'.heap.size)) ∧ w.heap.size + 1 ≤ w'.heap.size := by
  have hownA : (w.alloc (.cells cs e)).ownsRow 0 e size v n xs := row_below hown ((Below.refl _ _).alloc (Nat.le_refl _) _)
  have hnews := World.news_of_block (cs := cs) (t := e) (fr := (0, 0)) (heap_alloc_new w (.cells cs e))
  obtain ⟨v', w', hr, ho', hg, _, hat⟩ := run_append_own_at (P := P) (w.alloc (.cells cs e)) 0 tS ty e i0 z size bytes hun hi0 hz0 hz1 hz2 hzs hsz v n xs hownA ⟨w.heap.size, 0, none⟩ 1 1 cs.toList (by omega) hnews h1 hmax hlen (Nat.zero_le _)
  have hz := hg.size
  simp only [World.size_alloc] at hz
  have hlt := ho'.lt
  refine ⟨v', w', hr, ho', ⟨hg.os, hg.tape, hg.output, by omega, fun k hk hn => ?_⟩, fun g hg' => ?_, hz⟩
  · exact (hg.block k (by simp; omega) (fun e => hn e.symm)).trans (Below.heap_alloc w _ k hk)
  · rcases hat with e1 | e1
    · exact .inl (e1 ▸ hg')
    · rw [e1] at hg'
      injection hg' with hg'
      simp only [World.size_alloc] at hg'
      have := hlt g (by rw [e1]; simp; omega)
      exact .inr ⟨by omega, this.2⟩
theorem wp_put1 {e tS : TypeId} {i0 : TypeInfo} {z : Value} {size bytes : Nat} (hun : P.underlying tS = some (.slice e)) (hi0 : P.info? e = some i0) (hz0 : i0.zero = some z) (hz1 : i0.size = size) (hz2 : i0.bytes = bytes) (hzs : z.cells.size = size) (hsz : 0 < size)
    {o : Oper} {a : Act} {K : Act → World → Prop} {Q : Exit → Act → World → Prop} (s x : Operand) (ho : o.op = .call { callee := .builtin .append, args := #[s, x], argTypes := #[tS, tS] })
    {w : World} {v : Value} {n : Nat} {xs : List Value} {cs : Array Value} (hown : w.ownsRow 0 e size v n xs) (hs : a.eval s = v) (hcs : cs.toList.length = size) (h1 : ∀ u ∈ cs.toList, u.oneCell' = true) {q : Nat} (hx : a.eval x = .slice (some ⟨q, 0, none⟩) 1 1) (hqz : q = w.heap.size) (hlen : (n + 1) * bytes ≤ 140737488355328) (hmax : n + 1 ≤ maxLen)
    (h : ∀ v' w', w'.ownsRow 0 e size v' (n + 1) (xs ++ cs.toList) → Keep (fun g => v.ownBlock = some g) w w' → (∀ g, v'.ownBlock = some g → v.ownBlock = some g ∨ (w.heap.size ≤ g ∧ g < w'.heap.size)) → w.heap.size + 1 ≤ w'.heap.size → K (a.put o.dst v') w') :
    Oper.wp P o a (w.alloc (.cells cs e)) K Q := by
  subst hqz
  obtain ⟨v', w', hr, h2, h3, h4, h5⟩ := run_put1 (ty := o.type) hun hi0 hz0 hz1 hz2 hzs hsz hown hcs h1 hlen hmax
  unfold Oper.wp execOp
  simp only [ho, resolve, invoke, builtin, Sem.run_bind, Sem.run_pure, Result.andThen_ok, List.map_toArray, List.map_cons, List.map_nil, hs, hx, hr]
  exact h v' w' h2 h3 h4 h5
theorem wpList_put1 {e tS : TypeId} {i0 : TypeInfo} {z : Value} {size bytes : Nat} (hun : P.underlying tS = some (.slice e)) (hi0 : P.info? e = some i0) (hz0 : i0.zero = some z) (hz1 : i0.size = size) (hz2 : i0.bytes = bytes) (hzs : z.cells.size = size) (hsz : 0 < size)
    {ops : Array Oper} {rest : List Oper} {o : Oper} {a : Act} {Q : Exit → Act → World → Prop} (hgd : o.guard = none) (s x : Operand) (ho : o.op = .call { callee := .builtin .append, args := #[s, x], argTypes := #[tS, tS] })
    {w : World} {v : Value} {n : Nat} {xs : List Value} {cs : Array Value} (hown : w.ownsRow 0 e size v n xs) (hs : a.eval s = v) (hcs : cs.toList.length = size) (h1 : ∀ u ∈ cs.toList, u.oneCell' = true) {q : Nat} (hx : a.eval x = .slice (some ⟨q, 0, none⟩) 1 1) (hqz : q = w.heap.size) (hlen : (n + 1) * bytes ≤ 140737488355328) (hmax : n + 1 ≤ maxLen)
    (h : ∀ v' w', w'.ownsRow 0 e size v' (n + 1) (xs ++ cs.toList) → Keep (fun g => v.ownBlock = some g) w w' → (∀ g, v'.ownBlock = some g → v.ownBlock = some g ∨ (w.heap.size ≤ g ∧ g < w'.heap.size)) → w.heap.size + 1 ≤ w'.heap.size → wpList P ops Q rest (a.put o.dst v') w') :
    wpList P ops Q (o :: rest) a (w.alloc (.cells cs e)) :=
  wpList_plain hgd fun _ hK => wp_put1 hun hi0 hz0 hz1 hz2 hzs hsz s x ho hown hs hcs h1 hx hqz hlen hmax fun v' w' h2 h3 h4 h5 => hK _ _ (h v' w' h2 h3 h4 h5)
end
end Go.Proofs.Ytoenkkbcpafanaa.trees

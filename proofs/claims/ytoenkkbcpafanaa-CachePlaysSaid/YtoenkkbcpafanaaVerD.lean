/- A list of versions that the call owns; append onto it, of versions from anywhere. -/
import Derived.Test.YtoenkkbcpafanaaVerC
import Derived.Maps.AppendAt
import Derived.Laws.OwnMore
import Derived.Laws.AppendOwnNone
import Derived.RegionTactic


namespace Go.Proofs.Ytoenkkbcpafanaa.vers
set_option linter.unusedVariables false
set_option linter.unusedSimpArgs false
open Go.RowKit Go.Proofs.Ytoenkkbcpafanaa.base Go.Proofs.Ytoenkkbcpafanaa.quotas

theorem infoV : (Try.prog.info? 180).map (fun i => (i.zero, i.size, i.bytes)) = some (some (.agg #[.int .i64 0, .string ⟨#[]⟩, .string ⟨#[]⟩]), 3, 40) := by kernel_rfl

/-- the slice v, built in blocks from lo on, holds the versions l -/
def OwnV (lo : Nat) (w : World) (l : List V) (v : Value) : Prop := w.ownsRow lo 180 3 v l.length (cellsV l) ∧ l.length * 40 ≤ 140737488355328 ∧ ∀ x ∈ l, x.fits

section
variable {lo : Nat} {w w' : World} {l : List V} {v : Value}
theorem OwnV.nil (lo : Nat) (w : World) : OwnV lo w [] (.slice none 0 0) := ⟨⟨rfl, .inl ⟨rfl, rfl⟩⟩, by simp, fun x h => by cases h⟩
theorem OwnV.empty (lo : Nat) (w : World) (h : lo ≤ w.heap.size) : OwnV lo (w.alloc (.cells #[] 180)) [] (.slice (some ⟨w.heap.size, 0, none⟩) 0 0) :=
  ⟨⟨rfl, .inr ⟨w.heap.size, 0, #[], rfl, h, heap_alloc_new w _, Nat.le_refl _, Nat.zero_le _, rfl, rfl⟩⟩, by simp, fun x h => by cases h⟩
theorem OwnV.own (h : OwnV lo w l v) : ∀ k, v.ownBlock = some k → lo ≤ k ∧ k < w.heap.size := h.1.lt
theorem OwnV.kept (h : OwnV lo w l v) {row : Option Nat} (hg : w.grownBy w' row) (hr : ∀ g, row = some g → v.ownBlock ≠ some g) : OwnV lo w' l v := by
  refine ⟨h.1.kept hg ?_, h.2⟩
  cases hv : v.ownBlock with
  | none => exact .inl rfl
  | some k => exact .inr fun e => hr k e.symm hv
theorem OwnV.below (h : OwnV lo w l v) (hb : Below w.heap.size w w') : OwnV lo w' l v :=
  h.kept (row := none) (grown_below (World.grownBy.refl w none) hb) (fun g e => by cases e)
theorem OwnV.form (h : OwnV lo w l v) : ∃ A c, v = .slice A l.length c ∧ l.length ≤ c := by
  rcases h.1.2 with ⟨rfl, hn⟩ | ⟨g, cap, cur, rfl, _, _, hc, _⟩
  · exact ⟨none, 0, by rw [hn], by omega⟩
  · exact ⟨_, cap, rfl, hc⟩
theorem OwnV.vs (h : OwnV lo w l v) : ∃ A c, v = .slice A l.length c ∧ Vs w w.heap.size l A c ∧ ∀ b off, A = some ⟨b, off, none⟩ → lo ≤ b := by
  obtain ⟨h1, h2, h3⟩ := h
  rcases h1.2 with ⟨rfl, hn⟩ | ⟨g, cap, cur, rfl, hg, hb, hc, _, hs, ht⟩
  · obtain rfl := List.eq_nil_of_length_eq_zero hn
    exact ⟨none, 0, rfl, ⟨Nat.le_refl _, by simp, fun _ => rfl, Rd.nil _ _ _, h3⟩, fun b off e => by cases e⟩
  · have hlt : g < w.heap.size := Blk.lt (t := 180) (cs := cur) hb
    refine ⟨_, cap, rfl, ⟨hc, h2, (fun e => by cases e), Blk.rdTake (t := 180) (cur := cur) (n := l.length * 3) hb (by simpa using ht) hlt, h3⟩, fun b off e => ?_⟩
    cases e
    exact hg
end

/-- append of versions that lie anywhere -/
theorem wp_append_vs {o : Oper} {a : Act} {K : Act → World → Prop} {Q : Exit → Act → World → Prop} {w : World} (s x : Operand)
    (ho : o.op = .call { callee := .builtin .append, args := #[s, x], argTypes := #[45, 45] })
    {lo B : Nat} {v : Value} {l m : List V} (hB : OwnV lo w l v) (hs : a.eval s = v) (hlo : lo ≤ w.heap.size) {A : Option Addr} {n c : Nat} (hx : a.eval x = .slice A n c) (hn : n = m.length) (hv : Vs w B m A c)
    (hlen : (l.length + m.length) * 40 ≤ 140737488355328)
    (h : ∀ v' w', OwnV lo w' (l ++ m) v' → w.grownBy w' v.ownBlock → (v'.ownBlock = v.ownBlock ∨ v'.ownBlock = some w.heap.size) → K (a.put o.dst v') w') : o.wp Try.prog a w K Q := by
  subst hn
  obtain ⟨i0, hi0, hz0, hz1, hz2⟩ := info_parts infoV
  obtain ⟨h1, h2, h3⟩ := hB
  have hfit : ∀ y ∈ l ++ m, y.fits := fun y hy => by
    rcases List.mem_append.1 hy with e | e
    · exact h3 y e
    · exact hv.2.2.2.2 y e
  cases A with
  | none =>
    obtain rfl := hv.2.2.1 rfl
    obtain rfl := List.eq_nil_of_length_eq_zero (Nat.le_zero.1 hv.1)
    have hrun := run_append_owned_none (P := Try.prog) (w := w) lo 45 o.type 180 i0 3 Try.underlying45 hi0 v l.length (cellsV l) h1
    have hx' : a.eval x = .slice none 0 0 := hx
    unfold Oper.wp
    simp [execOp, ho, resolve, invoke, builtin, hs, hx', hrun, Result.andThen]
    exact h _ _ (by rw [List.append_nil]; exact ⟨h1, h2, h3⟩) (World.grownBy.refl w _) (.inl rfl)
  | some ad =>
    obtain ⟨v', w', hr, k2, k3, _, k5⟩ := run_append_own_at (P := Try.prog) w lo 45 o.type 180 i0 _ 3 40 Try.underlying45 hi0 hz0 hz1 hz2 rfl (by decide) v l.length (cellsV l) h1 ad m.length c (cellsV m) (by rw [cellsV_len]; omega)
      (fun j u hj => by
        obtain ⟨b, off, e, hb, hc⟩ := hv.2.2.2.1 j u hj
        cases e
        rw [add_plain]
        exact hc) (cellsV_one m) (by unfold maxLen; omega) hlen hlo
    unfold Oper.wp execOp
    simp only [ho, resolve, invoke, builtin, Sem.run_bind, Sem.run_pure, Result.andThen_ok, List.map_toArray, List.map_cons, List.map_nil, hs, hx, hr]
    exact h v' w' ⟨by rw [cellsV_app, List.length_append]; exact k2, by rw [List.length_append]; exact hlen, hfit⟩ k3 k5
theorem wpList_append_vs {ops : Array Oper} {rest : List Oper} {o : Oper} {a : Act} {Q : Exit → Act → World → Prop} {w : World} (hgd : o.guard = none) (s x : Operand)
    (ho : o.op = .call { callee := .builtin .append, args := #[s, x], argTypes := #[45, 45] })
    {lo B : Nat} {v : Value} {l m : List V} (hB : OwnV lo w l v) (hs : a.eval s = v) (hlo : lo ≤ w.heap.size) {A : Option Addr} {n c : Nat} (hx : a.eval x = .slice A n c) (hn : n = m.length) (hv : Vs w B m A c)
    (hlen : (l.length + m.length) * 40 ≤ 140737488355328)
    (h : ∀ v' w', OwnV lo w' (l ++ m) v' → w.grownBy w' v.ownBlock → (v'.ownBlock = v.ownBlock ∨ v'.ownBlock = some w.heap.size) → wpList Try.prog ops Q rest (a.put o.dst v') w') : wpList Try.prog ops Q (o :: rest) a w :=
  wpList_plain hgd fun _ hK => wp_append_vs s x ho hB hs hlo hx hn hv hlen fun v' w' h2 h3 h4 => hK _ _ (h v' w' h2 h3 h4)
theorem step_append_vs {ops : Array Oper} {o : Oper} {a : Act} {K : Act → World → Prop} {Q : Exit → Act → World → Prop} {E : Prop} {w : World} (hgd : o.guard = none) (s x : Operand)
    (ho : o.op = .call { callee := .builtin .append, args := #[s, x], argTypes := #[45, 45] })
    {lo B : Nat} {v : Value} {l m : List V} (hB : OwnV lo w l v) (hs : a.eval s = v) (hlo : lo ≤ w.heap.size) {A : Option Addr} {n c : Nat} (hx : a.eval x = .slice A n c) (hn : n = m.length) (hv : Vs w B m A c)
    (hlen : (l.length + m.length) * 40 ≤ 140737488355328)
    (h : ∀ v' w', OwnV lo w' (l ++ m) v' → w.grownBy w' v.ownBlock → (v'.ownBlock = v.ownBlock ∨ v'.ownBlock = some w.heap.size) → K (a.put o.dst v') w') :
    if Region.wanted o (yielded ops a.tmps) = true then Oper.wp Try.prog o a w K Q else E := by
  have hw : Region.wanted o (yielded ops a.tmps) = true := by simp [Region.wanted, hgd]
  rw [if_pos hw]
  exact wp_append_vs s x ho hB hs hlo hx hn hv hlen h
end Go.Proofs.Ytoenkkbcpafanaa.vers

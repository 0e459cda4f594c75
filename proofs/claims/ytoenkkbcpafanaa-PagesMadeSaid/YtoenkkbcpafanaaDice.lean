/- What package dice's functions do to memory: copied, New, Taken, Next, Copy. -/
import Derived.Test.YtoenkkbcpafanaaRows
import Derived.Test.YtoenkkbcpafanaaBase


namespace Go.Proofs.Ytoenkkbcpafanaa.dice
set_option linter.unusedVariables false
set_option linter.unusedSimpArgs false
open Go.RowKit Go.Proofs.Ytoenkkbcpafanaa.base

theorem own : ownKnob Try.prog.godebug = none := by kernel_rfl
theorem info64 : (Try.prog.info? 25).map (fun i => (i.zero, i.size, i.bytes)) = some (some (.int .u64 0), 1, 8) := by kernel_rfl
theorem size64 : (Try.prog.info? 25).map (·.size) = some 1 := by kernel_rfl

theorem splice_all {α : Type} (L cs : List α) (h : cs.length = L.length) : splice L 0 cs = cs := by
  simp [splice, h]
theorem copied_any (A : Option Addr) (c : Nat) (xs : List Value) (w : World) (hr : Rd w w.heap.size A xs) (h1 : ∀ u ∈ xs, u.oneCell' = true) (hn : xs.length ≤ 35184372088832) :
    Calls Try.prog 122 #[.slice A xs.length c] w fun e w' =>
      ∃ g, e = .returned (.slice (some ⟨g, 0, none⟩) xs.length xs.length) ∧ w.heap.size ≤ g ∧ Blk w' g 25 xs.toArray ∧ Below w.heap.size w w' := by
  obtain ⟨i0, hi, hz0, hz1, hz2⟩ := info_parts info64
  have hmk : ∀ u : World, (Instr.makeSlice 136 (.int .i64 (xs.length : Int)) (.int .i64 (xs.length : Int))).run Try.prog u =
      .ok (.slice (some ⟨u.heap.size, 0, none⟩) xs.length xs.length) (u.alloc (.cells (madeCells #[.int .u64 0] xs.length) 25)) := fun u => by
    have h := run_make (P := Try.prog) u 136 25 i0 (.int .u64 0) Try.underlying136 hi hz0 .i64 .i64 (xs.length : Int) (xs.length : Int) (by omega) (Int.le_refl _) (by rw [hz2]; omega) (by omega)
    simpa [hz1, Value.cells] using h
  go_enter Try.func122, Try.ntmps122
  go_wp2_with (first
    | (refine wpList_copy_splice rfl (.tmp 7) (.tmp 8) _ _ rfl 25 Try.underlying136 size64 _ _ _ _ _ _ rfl rfl w.heap.size 0 (madeCells #[.int .u64 0] xs.length).toList 25 ?_ xs ?_ ?_ ?_ h1 w.heap.size w ?_ (Nat.le_refl _) ?_))
  · simpa using heap_alloc_new w _
  · simp
  · intro hpos
    obtain ⟨b, off, e, _, _⟩ := hr.at_ hpos
    refine ⟨_, e, fun j v hj => ?_⟩
    obtain ⟨b', off', e', hb', hc'⟩ := hr j v hj
    rw [e] at e'
    cases e'
    rw [add_plain]
    exact (World.cell?_alloc_lt w _ ⟨b, off + j, none⟩ hb').trans hc'
  · simp [size_madeCells]
  · exact (Below.refl _ _).alloc (Nat.le_refl _) _
  · intro w2 HG hB
    go_wp2
    go_ret
    refine ⟨w.heap.size, rfl, Nat.le_refl _, ?_, hB⟩
    have h := HG.out
    rwa [splice_all _ _ (by simp [size_madeCells])] at h

/-- dice at block gd, their list at block gl: the numbers zs, k of them taken -/
structure IsDice (w : World) (B gd gl : Nat) (zs : List Int) (k : Nat) : Prop where
  low : B ≤ gd
  lowl : B ≤ gl
  ne : gd ≠ gl
  self : Blk w gd 222 #[.slice (some ⟨gl, 0, none⟩) zs.length zs.length, .int .i64 k]
  list : Blk w gl 25 (zs.map (Value.int .u64)).toArray

def draw (zs : List Int) (k : Nat) : Int := if k < zs.length then zs[k]?.getD 0 else 1099511627776 + k

theorem IsDice.keep {w w' : World} {B gd gl : Nat} {zs : List Int} {k : Nat} (h : IsDice w B gd gl zs k) (hd : w'.heap[gd]? = w.heap[gd]?) (hl : w'.heap[gl]? = w.heap[gl]?) : IsDice w' B gd gl zs k :=
  ⟨h.low, h.lowl, h.ne, hd.trans h.self, hl.trans h.list⟩
theorem IsDice.mono {w : World} {B B' gd gl : Nat} {zs : List Int} {k : Nat} (h : IsDice w B gd gl zs k) (hB : B' ≤ B) : IsDice w B' gd gl zs k :=
  ⟨by have := h.low; omega, by have := h.lowl; omega, h.ne, h.self, h.list⟩
theorem IsDice.next {w : World} {B gd gl : Nat} {zs : List Int} {k : Nat} (h : IsDice w B gd gl zs k) : IsDice (w.setCell ⟨gd, 1, none⟩ (.int .i64 ((k + 1 : Nat) : Int))) B gd gl zs (k + 1) :=
  ⟨h.low, h.lowl, h.ne, by have := h.self.put 1 (.int .i64 ((k + 1 : Nat) : Int)); simpa using this, h.list.far (p := ⟨gd, 1, none⟩) (fun e => h.ne e.symm) _⟩

theorem one_cells (zs : List Int) : ∀ u ∈ zs.map (Value.int .u64), u.oneCell' = true := by
  intro u hu
  obtain ⟨z, _, rfl⟩ := List.mem_map.1 hu
  rfl

theorem new_long (A : Option Addr) (n c : Nat) (w : World) (hn : 100000 < n) (hm : n ≤ 35184372088832) :
    Calls Try.prog 56 #[.slice A n c] w fun e w' => e = .returned (.tuple #[.pointer none, .int .i64 2]) ∧ w' = w := by
  go_enter Try.func56, Try.ntmps56
  go_wp2
  go_ret2
  exact ⟨rfl, rfl⟩

theorem new_ok (A : Option Addr) (c : Nat) (zs : List Int) (w : World) (hr : Rd w w.heap.size A (zs.map (Value.int .u64))) (hn : zs.length ≤ 100000) :
    Calls Try.prog 56 #[.slice A zs.length c] w fun e w' =>
      ∃ gd gl, e = .returned (.tuple #[.pointer (some ⟨gd, 0, none⟩), .int .i64 0]) ∧ IsDice w' w.heap.size gd gl zs 0 ∧ Below w.heap.size w w' := by
  have hc := copied_any A c (zs.map (Value.int .u64)) w hr (one_cells zs) (by simp; omega)
  rw [List.length_map] at hc
  go_enter Try.func56, Try.ntmps56
  go_wp2_with (go_at_call 122; refine hc.mono ?_; rintro e w1 ⟨gl, rfl, hg, hb, hbel⟩)
  go_ret2
  refine ⟨w1.heap.size, gl, rfl, ⟨hbel.size, hg, by have := hb.lt; omega, ?_, hb.alloc _⟩, hbel.alloc hbel.size _⟩
  exact Blk.new w1 _ _

theorem taken_ok (w : World) (B gd gl : Nat) (zs : List Int) (k : Nat) (h : IsDice w B gd gl zs k) :
    Calls Try.prog 60 #[.pointer (some ⟨gd, 0, none⟩)] w fun e w' => e = .returned (.int .i64 k) ∧ w = w' := by
  have h1 : w.cell? ⟨gd, 1, none⟩ = some (.int .i64 k) := by rw [h.self.cell]; rfl
  clear h
  go_enter Try.func60, Try.ntmps60
  go_wp2
  go_ret
  exact ⟨rfl, rfl⟩

theorem next_ok (w : World) (B gd gl : Nat) (zs : List Int) (k : Nat) (h : IsDice w B gd gl zs k) (hk : k ≤ 1000000) :
    Calls Try.prog 126 #[.pointer (some ⟨gd, 0, none⟩)] w fun e w' => e = .returned (.int .u64 (draw zs k)) ∧ w' = w.setCell ⟨gd, 1, none⟩ (.int .i64 ((k + 1 : Nat) : Int)) := by
  have h0 : w.cell? ⟨gd, 0, none⟩ = some (.slice (some ⟨gl, 0, none⟩) zs.length zs.length) := by rw [h.self.cell]; rfl
  have h1 : w.cell? ⟨gd, 1, none⟩ = some (.int .i64 k) := by rw [h.self.cell]; rfl
  have hf : w.frozen? ⟨gd, 1, none⟩ = false := h.self.frozen 1
  by_cases hlt : k < zs.length
  · have h2 : w.cell? ⟨gl, k, none⟩ = some (.int .u64 (zs[k]?.getD 0)) := by rw [h.list.cell]; simp [hlt]
    have hne := h.ne
    clear h
    go_enter Try.func126, Try.ntmps126
    go_wp2
    go_ret
    exact ⟨by simp [draw, hlt], by simp⟩
  · clear h
    go_enter Try.func126, Try.ntmps126
    go_wp2
    go_ret
    exact ⟨by simp [draw, hlt], by simp⟩

theorem draw_ok (A : Option Addr) (c B : Nat) (zs : List Int) (k : Nat) (w : World) (hr : Rd w B A (zs.map (Value.int .u64))) (hk : k ≤ 1000000) :
    Calls Try.prog 67 #[.slice A zs.length c, .int .i64 k] w fun e w' => e = .returned (.int .u64 (draw zs k)) ∧ w = w' := by
  by_cases hlt : k < zs.length
  · obtain ⟨b, off, rfl, hb, hcell⟩ := hr.at_ (k := k) (by simpa using hlt)
    have h2 : w.cell? ⟨b, off + k, none⟩ = some (.int .u64 (zs[k]?.getD 0)) := by rw [hcell]; simp [hlt]
    clear hcell hr
    go_enter Try.func67, Try.ntmps67
    go_wp2
    go_ret
    exact ⟨by simp [draw, hlt], rfl⟩
  · clear hr
    go_enter Try.func67, Try.ntmps67
    go_wp2
    go_ret
    exact ⟨by simp [draw, hlt], rfl⟩

end Go.Proofs.Ytoenkkbcpafanaa.dice

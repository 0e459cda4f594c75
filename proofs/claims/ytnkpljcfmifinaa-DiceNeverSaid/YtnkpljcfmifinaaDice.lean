/- What package dice's functions do to memory: copied, New, Taken, Next, Copy. -/
import Derived.Test.YtnkpljcfmifinaaRows
import Derived.Test.YtnkpljcfmifinaaBase
namespace Go.Proofs.Ytnkpljcfmifinaa.dice
open Go.RowKit Go.Proofs.Ytnkpljcfmifinaa.base

theorem own : ownKnob Try.prog.godebug = none := by kernel_rfl
theorem info64 : (Try.prog.info? 31).map (fun i => (i.zero, i.size, i.bytes)) = some (some (.int .u64 0), 1, 8) := by kernel_rfl
theorem size64 : (Try.prog.info? 31).map (·.size) = some 1 := by kernel_rfl

theorem splice_all {α : Type} (L cs : List α) (h : cs.length = L.length) : splice L 0 cs = cs := by
  simp [splice, h]
theorem copied_any (A : Option Addr) (c : Nat) (xs : List Value) (w : World) (hr : Rd w w.heap.size A xs) (h1 : ∀ u ∈ xs, u.oneCell' = true) (hn : xs.length ≤ 35184372088832) :
    Calls Try.prog 16 #[.slice A xs.length c] w fun e w' =>
      ∃ g, e = .returned (.slice (some ⟨g, 0, none⟩) xs.length xs.length) ∧ w.heap.size ≤ g ∧ Blk w' g 31 xs.toArray ∧ Below w.heap.size w w' := by
  obtain ⟨i0, hi, hz0, hz1, hz2⟩ := info_parts info64
  have hmk : ∀ u : World, (Instr.makeSlice 22 (.int .i64 (xs.length : Int)) (.int .i64 (xs.length : Int))).run Try.prog u =
      .ok (.slice (some ⟨u.heap.size, 0, none⟩) xs.length xs.length) (u.alloc (.cells (madeCells #[.int .u64 0] xs.length) 31)) := fun u => by
    have h := run_make (P := Try.prog) u 22 31 i0 (.int .u64 0) Try.underlying22 hi hz0 .i64 .i64 (xs.length : Int) (xs.length : Int) (by omega) (Int.le_refl _) (by rw [hz2]; omega) (by omega)
    simpa [hz1, Value.cells] using h
  go_enter Try.func16, Try.ntmps16
  go_wp2_with (first
    | (refine wpList_copy_splice rfl (.tmp 7) (.tmp 8) _ _ rfl 31 Try.underlying22 size64 _ _ _ _ _ _ rfl rfl w.heap.size 0 (madeCells #[.int .u64 0] xs.length).toList 31 ?_ xs ?_ ?_ ?_ h1 w.heap.size w ?_ (Nat.le_refl _) ?_))
  · simpa using heap_alloc_new w _
  · simp
  · intro hpos
    obtain ⟨b, off, e, _, _⟩ := hr.at_ hpos
    refine ⟨_, e, fun j v hj => ?_⟩
    obtain ⟨b', off', e', hb', hc'⟩ := hr j v hj
    rw [e] at e'
    cases e'
    rw [add_plain]
    exact (World.cell?_alloc_lt w _ ⟨b, off + j, none⟩ hb').trans hc'
  · simp [size_madeCells]
  · exact (Below.refl _ _).alloc (Nat.le_refl _) _
  · intro w2 HG hB
    go_wp2
    go_ret
    refine ⟨w.heap.size, rfl, Nat.le_refl _, ?_, hB⟩
    have h := HG.out
    rwa [splice_all _ _ (by simp [size_madeCells])] at h

/-- dice at block gd, their list at block gl: the numbers zs, k of them taken -/
structure IsDice (w : World) (B gd gl : Nat) (zs : List Int) (k : Nat) : Prop where
  low : B ≤ gd
  lowl : B ≤ gl
  ne : gd ≠ gl
  self : Blk w gd 40 #[.slice (some ⟨gl, 0, none⟩) zs.length zs.length, .int .i64 k]
  list : Blk w gl 31 (zs.map (Value.int .u64)).toArray

def draw (zs : List Int) (k : Nat) : Int := if k < zs.length then zs[k]?.getD 0 else 1099511627776 + k

theorem IsDice.keep {w w' : World} {B gd gl : Nat} {zs : List Int} {k : Nat} (h : IsDice w B gd gl zs k) (hd : w'.heap[gd]? = w.heap[gd]?) (hl : w'.heap[gl]? = w.heap[gl]?) : IsDice w' B gd gl zs k :=
  ⟨h.low, h.lowl, h.ne, hd.trans h.self, hl.trans h.list⟩
theorem IsDice.mono {w : World} {B B' gd gl : Nat} {zs : List Int} {k : Nat} (h : IsDice w B gd gl zs k) (hB : B' ≤ B) : IsDice w B' gd gl zs k :=
  ⟨by have := h.low; omega, by have := h.lowl; omega, h.ne, h.self, h.list⟩
theorem IsDice.next {w : World} {B gd gl : Nat} {zs : List Int} {k : Nat} (h : IsDice w B gd gl zs k) : IsDice (w.setCell ⟨gd, 1, none⟩ (.int .i64 ((k + 1 : Nat) : Int))) B gd gl zs (k + 1) :=
  ⟨h.low, h.lowl, h.ne, by have := h.self.put 1 (.int .i64 ((k + 1 : Nat) : Int)); simpa using this, h.list.far (p := ⟨gd, 1, none⟩) (fun e => h.ne e.symm) _⟩

theorem one_cells (zs : List Int) : ∀ u ∈ zs.map (Value.int .u64), u.oneCell' = true := by
  intro u hu
  obtain ⟨z, _, rfl⟩ := List.mem_map.1 hu
  rfl

theorem new_long (A : Option Addr) (n c : Nat) (w : World) (hn : 100000 < n) (hm : n ≤ 35184372088832) :
    Calls Try.prog 9 #[.slice A n c] w fun e w' => e = .returned (.tuple #[.pointer none, .int .i64 2]) ∧ w' = w := by
  go_enter Try.func9, Try.ntmps9
  go_wp2
  go_ret2
  exact ⟨rfl, rfl⟩

theorem new_ok (A : Option Addr) (c : Nat) (zs : List Int) (w : World) (hr : Rd w w.heap.size A (zs.map (Value.int .u64))) (hn : zs.length ≤ 100000) :
    Calls Try.prog 9 #[.slice A zs.length c] w fun e w' =>
      ∃ gd gl, e = .returned (.tuple #[.pointer (some ⟨gd, 0, none⟩), .int .i64 0]) ∧ IsDice w' w.heap.size gd gl zs 0 ∧ Below w.heap.size w w' := by
  have hc := copied_any A c (zs.map (Value.int .u64)) w hr (one_cells zs) (by simp; omega)
  rw [List.length_map] at hc
  go_enter Try.func9, Try.ntmps9
  go_wp2_with (go_at_call 16; refine hc.mono ?_; rintro e w1 ⟨gl, rfl, hg, hb, hbel⟩)
  go_ret2
  refine ⟨w1.heap.size, gl, rfl, ⟨hbel.size, hg, by have := hb.lt; omega, ?_, hb.alloc _⟩, hbel.alloc hbel.size _⟩
  exact Blk.new w1 _ _

theorem taken_ok (w : World) (B gd gl : Nat) (zs : List Int) (k : Nat) (h : IsDice w B gd gl zs k) :
    Calls Try.prog 10 #[.pointer (some ⟨gd, 0, none⟩)] w fun e w' => e = .returned (.int .i64 k) ∧ w = w' := by
  have h1 : w.cell? ⟨gd, 1, none⟩ = some (.int .i64 k) := by rw [h.self.cell]; rfl
  clear h
  go_enter Try.func10, Try.ntmps10
  go_wp2
  go_ret
  exact ⟨rfl, rfl⟩

theorem next_ok (w : World) (B gd gl : Nat) (zs : List Int) (k : Nat) (h : IsDice w B gd gl zs k) (hk : k ≤ 1000000) :
    Calls Try.prog 12 #[.pointer (some ⟨gd, 0, none⟩)] w fun e w' => e = .returned (.int .u64 (draw zs k)) ∧ w' = w.setCell ⟨gd, 1, none⟩ (.int .i64 ((k + 1 : Nat) : Int)) := by
  have h0 : w.cell? ⟨gd, 0, none⟩ = some (.slice (some ⟨gl, 0, none⟩) zs.length zs.length) := by rw [h.self.cell]; rfl
  have h1 : w.cell? ⟨gd, 1, none⟩ = some (.int .i64 k) := by rw [h.self.cell]; rfl
  have hf : w.frozen? ⟨gd, 1, none⟩ = false := h.self.frozen 1
  by_cases hlt : k < zs.length
  · have h2 : w.cell? ⟨gl, k, none⟩ = some (.int .u64 (zs[k]?.getD 0)) := by rw [h.list.cell]; simp [hlt]
    have hne := h.ne
    clear h
    go_enter Try.func12, Try.ntmps12
    go_wp2
    go_ret
    exact ⟨by simp [draw, hlt], by simp⟩
  · clear h
    go_enter Try.func12, Try.ntmps12
    go_wp2
    go_ret
    exact ⟨by simp [draw, hlt], by simp⟩

theorem copy_ok (w : World) (B gd gl : Nat) (zs : List Int) (k : Nat) (h : IsDice w B gd gl zs k) (hn : zs.length ≤ 100000) :
    Calls Try.prog 11 #[.pointer (some ⟨gd, 0, none⟩)] w fun e w' =>
      ∃ gd' gl', e = .returned (.pointer (some ⟨gd', 0, none⟩)) ∧ IsDice w' w.heap.size gd' gl' zs k ∧ Below w.heap.size w w' := by
  have h0 : w.cell? ⟨gd, 0, none⟩ = some (.slice (some ⟨gl, 0, none⟩) zs.length zs.length) := by rw [h.self.cell]; rfl
  have h1 : w.cell? ⟨gd, 1, none⟩ = some (.int .i64 k) := by rw [h.self.cell]; rfl
  go_enter Try.func11, Try.ntmps11
  have hc := copied_any (some ⟨gl, 0, none⟩) zs.length (zs.map (Value.int .u64)) w.drew (h.list.rd h.list.lt) (one_cells zs) (by simp; omega)
  rw [List.length_map] at hc
  have hlt : gd < w.heap.size := h.self.lt
  go_wp2
  go_region_with (go_at_call 16; refine hc.mono ?_; rintro e w1 ⟨gl', rfl, hg, hb, hbel⟩; have k1 := (hbel.cell (p := ⟨gd, 1, none⟩) hlt).trans h1)
  all_goals
    go_wp2
    go_ret
    have hbel' : Below w.heap.size w w1 := ((Below.refl _ w).drew).trans hbel
    exact ⟨w1.heap.size, gl', rfl, ⟨hbel'.size, hg, by have := hb.lt; omega, Blk.new w1 _ _, hb.alloc _⟩, hbel'.alloc hbel'.size _⟩

theorem draw_ok (A : Option Addr) (c B : Nat) (zs : List Int) (k : Nat) (w : World) (hr : Rd w B A (zs.map (Value.int .u64))) (hk : k ≤ 1000000) :
    Calls Try.prog 13 #[.slice A zs.length c, .int .i64 k] w fun e w' => e = .returned (.int .u64 (draw zs k)) ∧ w = w' := by
  by_cases hlt : k < zs.length
  · obtain ⟨b, off, rfl, hb, hcell⟩ := hr.at_ (k := k) (by simpa using hlt)
    have h2 : w.cell? ⟨b, off + k, none⟩ = some (.int .u64 (zs[k]?.getD 0)) := by rw [hcell]; simp [hlt]
    clear hcell hr
    go_enter Try.func13, Try.ntmps13
    go_wp2
    go_ret
    exact ⟨by simp [draw, hlt], rfl⟩
  · clear hr
    go_enter Try.func13, Try.ntmps13
    go_wp2
    go_ret
    exact ⟨by simp [draw, hlt], rfl⟩

theorem short_ok (A : Option Addr) (len cap m B : Nat) (xs : List Value) (w : World) (hr : Rd w B A xs) (hl : xs.length = len) (hc : len ≤ cap) :
    Calls Try.prog 8 #[.slice A len cap, .int .i64 m] w fun e w' => e = .returned (.slice A (min len m) cap) ∧ w = w' := by
  subst hl
  by_cases hlt : m < xs.length
  · obtain ⟨b, off, rfl, hb, hcell⟩ := hr.at_ (k := 0) (by omega)
    clear hcell
    go_enter Try.func8, Try.ntmps8
    go_wp2
    go_ret
    exact ⟨by rw [Nat.min_eq_right (by omega)]; rfl, rfl⟩
  · go_enter Try.func8, Try.ntmps8
    go_wp2
    go_ret
    exact ⟨by rw [Nat.min_eq_left (by omega)]; rfl, rfl⟩
end Go.Proofs.Ytnkpljcfmifinaa.dice

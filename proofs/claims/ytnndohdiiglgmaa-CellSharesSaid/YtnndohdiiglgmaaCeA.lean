/- A cell: its slots as they stand in memory, and its small methods. -/
import Derived.Test.YtnndohdiiglgmaaPwB
import Derived.Deep.MidRow
import Derived.Lib.LazyBuf
import Derived.Lib.BufferRead
import Derived.Lib.SlBytesRow
import Derived.Laws.Slices
import Derived.BigQuiet
import Derived.Deep.QuietTactic
import Derived.Test.YtnndohdiiglgmaaPwC
import Derived.Test.YtnndohdiiglgmaaMixE


namespace Go.Proofs.Ytnndohdiiglgmaa.cells
set_option linter.unusedVariables false
set_option linter.unusedSimpArgs false
open Go.RowKit Go.Proofs.Ytnndohdiiglgmaa.base Go.Proofs.Ytnndohdiiglgmaa.powers Go.Lib

/-- what a cell has -/
structure CS where
  s0 : ByteArray
  s1 : ByteArray
  D : Int
def CS.at_ (c : CS) (k : Nat) : ByteArray := if k = 0 then c.s0 else c.s1
/-- a slot written over -/
def CS.put (c : CS) (k : Nat) (b : ByteArray) : CS := if k = 0 then ⟨b, c.s1, nx c.D⟩ else ⟨c.s0, b, nx c.D⟩
/-- the cells of a room -/
def zRoom : Array Value := (Array.replicate 200 (Value.int .u8 0)).push (.int .i64 0)
def zCell (p : Nat) : Array Value := #[.pointer (some ⟨p, 0, none⟩)] ++ zRoom ++ zRoom ++ #[.int .i64 0]
/-- a cell in block g, over the power in block p -/
structure Ce (w : World) (p g : Nat) (c : CS) : Prop where
  blk : ∃ cs, Blk w g 89 cs ∧ cs.size = 404
  ptr : w.cell? ⟨g, 0, none⟩ = some (.pointer (some ⟨p, 0, none⟩))
  done : w.cell? ⟨g, 403, none⟩ = some (.int .i64 c.D)
  used0 : w.cell? ⟨g, 201, none⟩ = some (.int .i64 (c.s0.size : Int))
  used1 : w.cell? ⟨g, 402, none⟩ = some (.int .i64 (c.s1.size : Int))
  byt0 : Bytes w g 1 c.s0
  byt1 : Bytes w g 202 c.s1
  le0 : c.s0.size ≤ 200
  le1 : c.s1.size ≤ 200
  ne : g ≠ p
section
variable {w w' : World} {p g : Nat} {c : CS}
theorem Ce.lt (h : Ce w p g c) : g < w.heap.size := by obtain ⟨_, h, _⟩ := h.blk; exact h.lt
theorem Ce.agree (h : Ce w p g c) (k : w'.heap[g]? = w.heap[g]?) : Ce w' p g c := by
  have kc : ∀ i, w'.cell? ⟨g, i, none⟩ = w.cell? ⟨g, i, none⟩ := fun i => by simp [World.cell?, k]
  obtain ⟨cs, hb, hs⟩ := h.blk
  exact ⟨⟨cs, k.trans hb, hs⟩, (kc _).trans h.ptr, (kc _).trans h.done, (kc _).trans h.used0, (kc _).trans h.used1, fun i hi => (kc _).trans (h.byt0 i hi), fun i hi => (kc _).trans (h.byt1 i hi), h.le0, h.le1, h.ne⟩
theorem Ce.below (h : Ce w p g c) {B : Nat} (hb : Below B w w') (hg : g < B) : Ce w' p g c := h.agree (hb.block g hg)
theorem Ce.keep {S : Nat → Prop} (h : Ce w p g c) (hb : St S w w') (hg : ¬ S g) : Ce w' p g c := h.agree (hb.block g h.lt hg)
theorem Ce.there (h : Ce w p g c) {o n : Nat} (hn : o + n ≤ 404) : w.there g o n := fun j hj => by
  obtain ⟨cs, hb, hs⟩ := h.blk
  refine ⟨?_, hb.frozen _⟩
  rw [hb.cell, Array.getElem?_eq_getElem (by omega)]
  rfl
theorem Ce.size_setCells (b o : Nat) (vs : List Value) (w : World) : (w.setCells b o vs).heap.size = w.heap.size := by
  induction vs generalizing o w with
  | nil => rfl
  | cons v vs ih => rw [World.setCells, ih, World.size_setCell]
theorem blk_setCells {t : TypeId} (o : Nat) : ∀ (vs : List Value) (o : Nat) (w : World) (cs : Array Value), Blk w g t cs → ∃ cs', Blk (w.setCells g o vs) g t cs' ∧ cs'.size = cs.size
  | [], _, _, cs, h => ⟨cs, h, rfl⟩
  | v :: vs, o, w, cs, h => by
    obtain ⟨cs', h1, h2⟩ := blk_setCells o vs (o + 1) _ _ (h.put o v)
    exact ⟨cs', h1, by rw [h2, Array.size_setIfInBounds]⟩
theorem St.setCells {S : Nat → Prop} (hg : S g) : ∀ (vs : List Value) (o : Nat) (w' : World), St S w w' → St S w (w'.setCells g o vs)
  | [], _, _, h => h
  | v :: vs, o, w', h => St.setCells hg vs (o + 1) _ (h.set hg o v)
/-- a slot's noughts are laid, nothing else yet -/
structure Cz (w : World) (p g : Nat) (c : CS) (k : Nat) : Prop where
  blk : ∃ cs, Blk w g 89 cs ∧ cs.size = 404
  ptr : w.cell? ⟨g, 0, none⟩ = some (.pointer (some ⟨p, 0, none⟩))
  done : w.cell? ⟨g, 403, none⟩ = some (.int .i64 c.D)
  oth0 : k = 1 → w.cell? ⟨g, 201, none⟩ = some (.int .i64 (c.s0.size : Int)) ∧ Bytes w g 1 c.s0
  oth1 : k = 0 → w.cell? ⟨g, 402, none⟩ = some (.int .i64 (c.s1.size : Int)) ∧ Bytes w g 202 c.s1
  le0 : c.s0.size ≤ 200
  le1 : c.s1.size ≤ 200
  ne : g ≠ p
theorem Cz.agree {k : Nat} (h : Cz w p g c k) (e : w'.heap[g]? = w.heap[g]?) : Cz w' p g c k := by
  have kc : ∀ i, w'.cell? ⟨g, i, none⟩ = w.cell? ⟨g, i, none⟩ := fun i => by simp [World.cell?, e]
  obtain ⟨cs, hb, hs⟩ := h.blk
  exact ⟨⟨cs, e.trans hb, hs⟩, (kc _).trans h.ptr, (kc _).trans h.done, fun hk => ⟨(kc _).trans (h.oth0 hk).1, fun i hi => (kc _).trans ((h.oth0 hk).2 i hi)⟩, fun hk => ⟨(kc _).trans (h.oth1 hk).1, fun i hi => (kc _).trans ((h.oth1 hk).2 i hi)⟩, h.le0, h.le1, h.ne⟩
theorem zRoom_len : zRoom.toList.length = 201 := by rw [Array.length_toList, zRoom, Array.size_push, Array.size_replicate]
theorem Ce.zero (h : Ce w p g c) (k o : Nat) (hk : k < 2) (ho : o = 1 + k * 201) : Cz (w.setCells g o zRoom.toList) p g c k := by
  subst ho
  obtain ⟨cs, hB, hs⟩ := h.blk
  obtain ⟨c1, B1, s1⟩ := blk_setCells 0 zRoom.toList (1 + k * 201) w cs hB
  have out : ∀ i, (i < 1 + k * 201 ∨ 202 + k * 201 ≤ i) → (w.setCells g (1 + k * 201) zRoom.toList).cell? ⟨g, i, none⟩ = w.cell? ⟨g, i, none⟩ := fun i hi =>
    World.cell?_setCells_out g _ _ w ⟨g, i, none⟩ (fun _ _ => by rw [zRoom_len]; show i < _ ∨ _ ≤ i; omega)
  have hl0 := h.le0
  exact ⟨⟨c1, B1, by omega⟩, (out 0 (by omega)).trans h.ptr, (out 403 (by omega)).trans h.done, fun hk => ⟨(out 201 (by omega)).trans h.used0, fun i hi => (out _ (by have : i < c.s0.size := hi; omega)).trans (h.byt0 i hi)⟩, fun hk => ⟨(out 402 (by omega)).trans h.used1, fun i hi => (out _ (by omega)).trans (h.byt1 i hi)⟩, h.le0, h.le1, h.ne⟩
/-- the bytes, their number, and one raw write more -/
theorem Cz.put_ok {k o u : Nat} (h : Cz w p g c k) (hk : k < 2) (ho : o = 1 + k * 201) (hu : u = 201 + k * 201) (b : ByteArray) (hb : b.size ≤ 200) :
    Ce (((w.setCells g o (b.data.toList.map fun x => Value.int .u8 (x.toNat : Int))).setCell ⟨g, u, none⟩ (.int .i64 (b.size : Int))).setCell ⟨g, 403, none⟩ (.int .i64 (nx c.D))) p g (c.put k b) ∧
      (∃ v, (w.setCells g o (b.data.toList.map fun x => Value.int .u8 (x.toNat : Int))).cell? ⟨g, u, none⟩ = some v) ∧ (w.setCells g o (b.data.toList.map fun x => Value.int .u8 (x.toNat : Int))).frozen? ⟨g, u, none⟩ = false ∧
      ((w.setCells g o (b.data.toList.map fun x => Value.int .u8 (x.toNat : Int))).setCell ⟨g, u, none⟩ (.int .i64 (b.size : Int))).cell? ⟨g, 403, none⟩ = some (.int .i64 c.D) ∧ ((w.setCells g o (b.data.toList.map fun x => Value.int .u8 (x.toNat : Int))).setCell ⟨g, u, none⟩ (.int .i64 (b.size : Int))).frozen? ⟨g, 403, none⟩ = false := by
  subst ho hu
  obtain ⟨cs, hB, hs⟩ := h.blk
  have hbl : (b.data.toList.map fun x => Value.int .u8 (x.toNat : Int)).length = b.size := by rw [List.length_map, ← size_eq]
  obtain ⟨c2, B2, s2⟩ := blk_setCells 0 (b.data.toList.map fun x => Value.int .u8 (x.toNat : Int)) (1 + k * 201) w cs hB
  have T1 : w.there g (1 + k * 201) b.size := fun j hj => ⟨by rw [hB.cell, Array.getElem?_eq_getElem (by omega)]; rfl, hB.frozen _⟩
  generalize hW2 : w.setCells g (1 + k * 201) (b.data.toList.map fun x => Value.int .u8 (x.toNat : Int)) = W2 at *
  have B3 := B2.put (201 + k * 201) (.int .i64 (b.size : Int))
  have B4 := B3.put 403 (.int .i64 (nx c.D))
  have out : ∀ i, (i < 1 + k * 201 ∨ 202 + k * 201 ≤ i) → W2.cell? ⟨g, i, none⟩ = w.cell? ⟨g, i, none⟩ := fun i hi => by
    rw [← hW2, World.cell?_setCells_out g _ _ w ⟨g, i, none⟩ (fun _ _ => by rw [hbl]; show i < _ ∨ _ ≤ i; omega)]
  have ins : ∀ i (hi : i < b.size), W2.cell? ⟨g, 1 + k * 201 + i, none⟩ = some (.int .u8 (b[i].toNat : Int)) := fun i hi => by
    rw [← hW2, World.cell?_setCells_in g _ _ w (fun j hj => (T1 j (by rw [hbl] at hj; exact hj)).1) i (by rw [hbl]; exact hi)]
    simp [ByteArray.getElem_eq_getElem_data]
  have at3 : ∀ i, i ≠ 201 + k * 201 → (W2.setCell ⟨g, 201 + k * 201, none⟩ (.int .i64 (b.size : Int))).cell? ⟨g, i, none⟩ = W2.cell? ⟨g, i, none⟩ := fun i h1 => by
    rw [B3.cell, Array.getElem?_setIfInBounds_ne (by omega), B2.cell]
  have f3 := B3.frozen 403
  have f2 := B2.frozen (201 + k * 201)
  have x2 : ∃ v, W2.cell? ⟨g, 201 + k * 201, none⟩ = some v := ⟨c2[201 + k * 201], by rw [B2.cell, Array.getElem?_eq_getElem (by omega)]⟩
  have x3 : (W2.setCell ⟨g, 201 + k * 201, none⟩ (.int .i64 (b.size : Int))).cell? ⟨g, 403, none⟩ = some (.int .i64 c.D) := (at3 403 (by omega)).trans ((out 403 (by omega)).trans h.done)
  have at4 : ∀ i, i ≠ 201 + k * 201 → i ≠ 403 → ((W2.setCell ⟨g, 201 + k * 201, none⟩ (.int .i64 (b.size : Int))).setCell ⟨g, 403, none⟩ (.int .i64 (nx c.D))).cell? ⟨g, i, none⟩ = W2.cell? ⟨g, i, none⟩ := fun i h1 h2 => by
    rw [B4.cell, Array.getElem?_setIfInBounds_ne (by omega), Array.getElem?_setIfInBounds_ne (by omega), B2.cell]
  have u4 : ((W2.setCell ⟨g, 201 + k * 201, none⟩ (.int .i64 (b.size : Int))).setCell ⟨g, 403, none⟩ (.int .i64 (nx c.D))).cell? ⟨g, 201 + k * 201, none⟩ = some (.int .i64 (b.size : Int)) := by
    rw [B4.cell, Array.getElem?_setIfInBounds_ne (by omega), Array.getElem?_setIfInBounds_self_of_lt (by omega)]
  have d4 : ((W2.setCell ⟨g, 201 + k * 201, none⟩ (.int .i64 (b.size : Int))).setCell ⟨g, 403, none⟩ (.int .i64 (nx c.D))).cell? ⟨g, 403, none⟩ = some (.int .i64 (nx c.D)) := by
    rw [B4.cell, Array.getElem?_setIfInBounds_self_of_lt (by rw [Array.size_setIfInBounds]; omega)]
  refine ⟨?_, x2, f2, x3, f3⟩
  generalize (W2.setCell ⟨g, 201 + k * 201, none⟩ (.int .i64 (b.size : Int))).setCell ⟨g, 403, none⟩ (.int .i64 (nx c.D)) = W4 at *
  have hB4 : ∃ cs, Blk W4 g 89 cs ∧ cs.size = 404 := ⟨_, B4, by simp only [Array.size_setIfInBounds]; omega⟩
  have hl0 := h.le0
  have hl1 := h.le1
  rcases (show k = 0 ∨ k = 1 by omega) with rfl | rfl
  · obtain ⟨q1, q2⟩ := h.oth1 rfl
    exact ⟨hB4, (at4 0 (by omega) (by omega)).trans ((out 0 (by omega)).trans h.ptr), d4, u4, (at4 402 (by omega) (by omega)).trans ((out 402 (by omega)).trans q1), fun i hi => (at4 _ (by have : i < b.size := hi; omega) (by have : i < b.size := hi; omega)).trans (ins i hi),
      fun i hi => (at4 _ (by have : i < c.s1.size := hi; omega) (by have : i < c.s1.size := hi; omega)).trans ((out _ (by omega)).trans (q2 i hi)), hb, h.le1, h.ne⟩
  · obtain ⟨q1, q2⟩ := h.oth0 rfl
    exact ⟨hB4, (at4 0 (by omega) (by omega)).trans ((out 0 (by omega)).trans h.ptr), d4, (at4 201 (by omega) (by omega)).trans ((out 201 (by omega)).trans q1), u4, fun i hi => (at4 _ (by have : i < c.s0.size := hi; omega) (by have : i < c.s0.size := hi; omega)).trans ((out _ (by have : i < c.s0.size := hi; omega)).trans (q2 i hi)),
      fun i hi => (at4 _ (by have : i < b.size := hi; omega) (by have : i < b.size := hi; omega)).trans (ins i hi), h.le0, hb, h.ne⟩
end

set_option maxRecDepth 100000 in
set_option maxHeartbeats 4000000 in
theorem has_ok (g : Nat) (sl : Int) (w : World) :
    Calls Try.prog 72 #[.pointer (some ⟨g, 0, none⟩), .int .i64 sl] w fun e w' => e = .returned (.bool (decide (sl = 0 ∨ sl = 1))) ∧ w' = w := by
  by_cases h1 : 0 ≤ sl
  · have d1 : decide (0 ≤ sl) = true := decide_eq_true h1
    by_cases h2 : sl < 2
    · have d2 : decide (sl < 2) = true := decide_eq_true h2
      have d3 : decide (sl = 0 ∨ sl = 1) = true := decide_eq_true (by omega)
      rw [d3]
      clear h1 h2
      go_enter Try.func72, Try.ntmps72
      go_wp2_with fail
      go_ret
      exact ⟨rfl, rfl⟩
    · have d2 : decide (sl < 2) = false := decide_eq_false h2
      have d3 : decide (sl = 0 ∨ sl = 1) = false := decide_eq_false (by omega)
      rw [d3]
      clear h1 h2
      go_enter Try.func72, Try.ntmps72
      go_wp2_with fail
      go_ret
      exact ⟨rfl, rfl⟩
  · have d1 : decide (0 ≤ sl) = false := decide_eq_false h1
    have d3 : decide (sl = 0 ∨ sl = 1) = false := decide_eq_false (by omega)
    rw [d3]
    clear h1
    go_enter Try.func72, Try.ntmps72
    go_wp2_with fail
    go_ret
    exact ⟨rfl, rfl⟩

section
variable {w : World} {p g : Nat} {c : CS} {L W : Int}

set_option maxRecDepth 100000 in
set_option maxHeartbeats 4000000 in
theorem isSet0 (h : Ce w p g c) :
    Calls Try.prog 73 #[.pointer (some ⟨g, 0, none⟩), .int .i64 0] w fun e w' => e = .returned (.bool (decide (c.s0.size ≠ 0))) ∧ w' = w := by
  have x0 := h.used0
  generalize c.s0.size = n at *
  clear h
  by_cases hn : n = 0
  · subst hn
    go_enter Try.func73, Try.ntmps73
    go_wp2_with fail
    go_ret
    exact ⟨by simp, rfl⟩
  · have d1 : decide ((n : Int) = 0) = false := decide_eq_false (by omega)
    have d2 : decide (n ≠ 0) = true := decide_eq_true hn
    rw [d2]
    have hn := powers.lay hn
    clear d2
    go_enter Try.func73, Try.ntmps73
    go_wp2_with fail
    go_ret
    exact ⟨by simp [hn.out], rfl⟩

set_option maxRecDepth 100000 in
set_option maxHeartbeats 4000000 in
theorem isSet1 (h : Ce w p g c) :
    Calls Try.prog 73 #[.pointer (some ⟨g, 0, none⟩), .int .i64 1] w fun e w' => e = .returned (.bool (decide (c.s1.size ≠ 0))) ∧ w' = w := by
  have x0 := h.used1
  generalize c.s1.size = n at *
  clear h
  by_cases hn : n = 0
  · subst hn
    go_enter Try.func73, Try.ntmps73
    go_wp2_with fail
    go_ret
    exact ⟨by simp, rfl⟩
  · have d1 : decide ((n : Int) = 0) = false := decide_eq_false (by omega)
    have d2 : decide (n ≠ 0) = true := decide_eq_true hn
    rw [d2]
    have hn := powers.lay hn
    clear d2
    go_enter Try.func73, Try.ntmps73
    go_wp2_with fail
    go_ret
    exact ⟨by simp [hn.out], rfl⟩

set_option maxRecDepth 100000 in
set_option maxHeartbeats 4000000 in
theorem count_ok (h : Ce w p g c) :
    Calls Try.prog 45 #[.pointer (some ⟨g, 0, none⟩)] w fun e w' => e = .returned (.int .i64 c.D) ∧ w' = w := by
  have x0 := h.done
  clear h
  go_enter Try.func45, Try.ntmps45
  go_wp2_with fail
  go_ret
  exact ⟨rfl, rfl⟩
theorem new_no (w : World) :
    Calls Try.prog 28 #[.pointer none] w fun e w' => e = .returned (.pointer none) ∧ w' = w := by
  go_enter Try.func28, Try.ntmps28
  go_wp2_with fail
  go_ret
  exact ⟨rfl, rfl⟩

theorem zCell_size (p : Nat) : (zCell p).size = 404 := by
  unfold zCell zRoom
  simp only [Array.size_append, Array.size_push, Array.size_replicate, List.size_toArray, List.length_singleton]
theorem zCell_at (p : Nat) : (zCell p)[0]? = some (.pointer (some ⟨p, 0, none⟩)) ∧ (zCell p)[201]? = some (.int .i64 0) ∧ (zCell p)[402]? = some (.int .i64 0) ∧ (zCell p)[403]? = some (.int .i64 0) := ⟨by kernel_rfl, by kernel_rfl, by kernel_rfl, by kernel_rfl⟩
theorem run_zCell (p : Nat) (u : World) : (Instr.build 89 #[(0, .pointer (some ⟨p, 0, none⟩))]).run Try.prog u = .ok (.agg (zCell p)) u := by
  have h : Try.prog.built 89 [(0, .pointer (some ⟨p, 0, none⟩))] = some (zCell p) := by kernel_rfl
  exact run_build u _ _ _ h
theorem run_zRoom (u : World) : (Instr.build 86 #[]).run Try.prog u = .ok (.agg zRoom) u := by
  have h : Try.prog.built 86 [] = some zRoom := by kernel_rfl
  exact run_build u _ _ _ h

theorem sizeRoom : (Try.prog.info? 86).map (·.size) = some zRoom.size := by kernel_rfl
theorem sizeU8 (u : World) : (Go.sizeOf 5).run Try.prog u = .ok 1 u := by
  have hi : (Try.prog.info? 5).map (·.size) = some 1 := by kernel_rfl
  obtain ⟨i0, hi0, hi1⟩ := Option.map_eq_some_iff.1 hi
  simp [sizeOf, typeInfo, hi0, hi1]
theorem oneRoom : zRoom.all (·.oneCell') = true := by kernel_rfl

end
end Go.Proofs.Ytnndohdiiglgmaa.cells

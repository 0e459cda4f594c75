/- A tree's calls at what can't be read. -/
import Derived.Test.YtnndohdiiglgmaaKTrW


namespace Go.Proofs.Ytnndohdiiglgmaa.trees
set_option linter.unusedVariables false
set_option linter.unusedSimpArgs false
open Go.RowKit Go.Proofs.Ytnndohdiiglgmaa.base Go.Proofs.Ytnndohdiiglgmaa.vers Go.Proofs.Ytnndohdiiglgmaa.nodes Go.Proofs.Ytnndohdiiglgmaa.quotas

theorem Bad.down {ns : List P3} {r : R} {d : Nat} {k : Int} (h : Bad ns r d k) (s : ByteArray) : ∀ f, f + d = 10 → downE ns s f r d = .error k := by
  induction h with
  | @page r d k h =>
    intro f hf
    cases f with
    | zero =>
      have : k = 70 := by
        unfold pageE at h
        rw [if_pos (by omega)] at h
        cases h; rfl
      subst this; rfl
    | succ f => exact downE_err h
  | @step r d k es x h hB ih =>
    intro f hf
    have := pageE_le h
    obtain ⟨f', rfl⟩ : ∃ f', f = f' + 1 := ⟨f - 1, by omega⟩
    rw [downE_ok h, afterE, if_neg (by simp)]
    have h0 : belP [x] s = 0 := by simp [belP, belG]
    rw [h0]
    have := ih f' (by omega)
    simp only [List.getElem?_cons_zero, Option.getD_some]
    rw [this]
abbrev zR : Value := .agg #[.int .u64 0, .int .i64 0, .int .i64 0, .int .i64 0]
abbrev pv (h : Nat) : Value := .iface 23 (.pointer (some ⟨h, 0, none⟩))

set_option maxRecDepth 100000 in
set_option maxHeartbeats 2000000 in
theorem get_bad (h : Nat) (S : Nat → Prop) (ns : List P3) (r : R) (s : ByteArray) (k : Int) (hB : Bad ns r 1 k) (w : World) (hh : Hp w h S ns) (hr : r.fits) :
    Calls Try.prog 61 #[pv h, r.val, .string s] w fun e w' => e = .returned (.tuple #[.agg #[.string ⟨#[]⟩, .slice none 0 0], .bool false, .int .i64 k]) ∧ Below w.heap.size w w' := by
  have hk : (k == 0) = false := by rcases hB.err with rfl | rfl <;> rfl
  have d1 : (k != 0) = true := by simp [bne, hk]
  have hd := fun w' (hb : Below w.heap.size w w') => (down_any h S ns r s w' (hh.agree (fun g hg => hb.block g (hh.lt g hg)) hb.size) hr).mono (R' := fun e w'' => Below w'.heap.size w' w'' ∧ e = .returned (.tuple #[.slice none 0 0, zN, .int .i64 k])) (fun e w'' hq => by rw [hB.down s 9 rfl] at hq; exact hq)
  clear hk
  obtain ⟨rk, rg, ro, rn⟩ := r
  have b0 : Below w.heap.size w ((w.alloc (.cells #[.int .u64 (rk : Int), .int .i64 rg, .int .i64 ro, .int .i64 rn] 27)).alloc (.cells #[.string ⟨#[]⟩, .slice none 0 0] 47)) := (((Below.refl _ _).alloc (by simp <;> omega) _).alloc (by simp <;> omega) _)
  have kz := (Blk.new (w.alloc (.cells #[.int .u64 (rk : Int), .int .i64 rg, .int .i64 ro, .int .i64 rn] 27)) 47 #[.string ⟨#[]⟩, .slice none 0 0])
  simp only [World.size_alloc] at kz
  go_enter Try.func61, Try.ntmps61
  go_wp2_with fail
  refine (hd _ b0).mono ?_
  rintro e w1 ⟨hb1, rfl⟩
  have bw1 := b0.trans (hb1.mono b0.size)
  have s1 := hb1.size
  simp only [World.size_alloc] at s1
  have kz1 := (kz.below hb1 kz.lt).alloc (.cells #[.bool false, .slice none 0 0, .slice none 0 0] 60)
  have c0 := kz1.cell 0
  have f0 := kz1.frozen 0
  have c1 := kz1.cell 1
  have f1 := kz1.frozen 1
  simp at c0 c1
  have gl := kz1.lt
  have bz := bw1.alloc (by omega) (.cells #[.bool false, .slice none 0 0, .slice none 0 0] 60)
  have kz2 := ((kz1.put 0 (.string ⟨#[]⟩)).put 1 (.slice none 0 0))
  have bz2 := ((bz.setCell (p := ⟨(w.heap.size + 1), 0, none⟩) (by simp <;> omega) (.string ⟨#[]⟩)).setCell (p := ⟨(w.heap.size + 1), 1, none⟩) (by simp <;> omega) (.slice none 0 0))
  simp at kz2
  go_wp2_with fail
  generalize (((w1.alloc (.cells #[.bool false, .slice none 0 0, .slice none 0 0] 60)).setCell ⟨(w.heap.size + 1), 0, none⟩ (.string ⟨#[]⟩)).setCell ⟨(w.heap.size + 1), 1, none⟩ (.slice none 0 0)) = wX at kz2 bz2 ⊢
  have c0 := kz2.cell 0
  have c1 := kz2.cell 1
  simp at c0 c1
  refine bodyPost_ret (v := (.tuple #[.agg #[.string ⟨#[]⟩, .slice none 0 0], .bool false, .int .i64 k])) (by simp [results, Try.results61, go_sem, c0, c1]) rfl ⟨rfl, bz2⟩

set_option maxRecDepth 100000 in
set_option maxHeartbeats 2000000 in
theorem put_bad (h : Nat) (S : Nat → Prop) (ns : List P3) (r : R) (s : ByteArray) (A : Option Addr) (n c : Nat) (k : Int) (hB : Bad ns r 1 k) (w : World) (hh : Hp w h S ns) (hr : r.fits) :
    Calls Try.prog 18 #[pv h, r.val, .agg #[.string s, .slice A n c]] w fun e w' => e = .returned (.tuple #[zR, .int .i64 k]) ∧ Below w.heap.size w w' := by
  have hk : (k == 0) = false := by rcases hB.err with rfl | rfl <;> rfl
  have d1 : (k != 0) = true := by simp [bne, hk]
  have hd := fun w' (hb : Below w.heap.size w w') => (down_any h S ns r s w' (hh.agree (fun g hg => hb.block g (hh.lt g hg)) hb.size) hr).mono (R' := fun e w'' => Below w'.heap.size w' w'' ∧ e = .returned (.tuple #[.slice none 0 0, zN, .int .i64 k])) (fun e w'' hq => by rw [hB.down s 9 rfl] at hq; exact hq)
  clear hk
  obtain ⟨rk, rg, ro, rn⟩ := r
  have b0 : Below w.heap.size w ((((w.alloc (.cells #[.int .u64 (rk : Int), .int .i64 rg, .int .i64 ro, .int .i64 rn] 27)).alloc (.cells #[.string s, .slice A n c] 47)).alloc (.cells #[.int .u64 0, .int .i64 0, .int .i64 0, .int .i64 0] 27)).alloc (.cells #[pv h] 111)) := (((((Below.refl _ _).alloc (by simp <;> omega) _).alloc (by simp <;> omega) _).alloc (by simp <;> omega) _).alloc (by simp <;> omega) _)
  have kz := ((Blk.new ((w.alloc (.cells #[.int .u64 (rk : Int), .int .i64 rg, .int .i64 ro, .int .i64 rn] 27)).alloc (.cells #[.string s, .slice A n c] 47)) 27 #[.int .u64 0, .int .i64 0, .int .i64 0, .int .i64 0]).alloc (.cells #[pv h] 111))
  simp only [World.size_alloc] at kz
  go_enter Try.func18, Try.ntmps18
  go_wp2_with fail
  refine (hd _ b0).mono ?_
  rintro e w1 ⟨hb1, rfl⟩
  have bw1 := b0.trans (hb1.mono b0.size)
  have s1 := hb1.size
  simp only [World.size_alloc] at s1
  have kz1 := (kz.below hb1 kz.lt).alloc (.cells #[.bool false, .slice none 0 0, .slice none 0 0] 60)
  have c0 := kz1.cell 0
  have f0 := kz1.frozen 0
  have c1 := kz1.cell 1
  have f1 := kz1.frozen 1
  have c2 := kz1.cell 2
  have f2 := kz1.frozen 2
  have c3 := kz1.cell 3
  have f3 := kz1.frozen 3
  simp at c0 c1 c2 c3
  have gl := kz1.lt
  have bz := bw1.alloc (by omega) (.cells #[.bool false, .slice none 0 0, .slice none 0 0] 60)
  have kz2 := ((((kz1.put 0 (.int .u64 0)).put 1 (.int .i64 0)).put 2 (.int .i64 0)).put 3 (.int .i64 0))
  have bz2 := ((((bz.setCell (p := ⟨(w.heap.size + 1 + 1), 0, none⟩) (by simp <;> omega) (.int .u64 0)).setCell (p := ⟨(w.heap.size + 1 + 1), 1, none⟩) (by simp <;> omega) (.int .i64 0)).setCell (p := ⟨(w.heap.size + 1 + 1), 2, none⟩) (by simp <;> omega) (.int .i64 0)).setCell (p := ⟨(w.heap.size + 1 + 1), 3, none⟩) (by simp <;> omega) (.int .i64 0))
  simp at kz2
  go_wp2_with fail
  generalize (((((w1.alloc (.cells #[.bool false, .slice none 0 0, .slice none 0 0] 60)).setCell ⟨(w.heap.size + 1 + 1), 0, none⟩ (.int .u64 0)).setCell ⟨(w.heap.size + 1 + 1), 1, none⟩ (.int .i64 0)).setCell ⟨(w.heap.size + 1 + 1), 2, none⟩ (.int .i64 0)).setCell ⟨(w.heap.size + 1 + 1), 3, none⟩ (.int .i64 0)) = wX at kz2 bz2 ⊢
  have c0 := kz2.cell 0
  have c1 := kz2.cell 1
  have c2 := kz2.cell 2
  have c3 := kz2.cell 3
  simp at c0 c1 c2 c3
  refine bodyPost_ret (v := (.tuple #[zR, .int .i64 k])) (by simp [results, Try.results18, go_sem, c0, c1, c2, c3]) rfl ⟨rfl, bz2⟩

set_option maxRecDepth 100000 in
set_option maxHeartbeats 2000000 in
theorem delete_bad (h : Nat) (S : Nat → Prop) (ns : List P3) (r : R) (s : ByteArray) (k : Int) (hB : Bad ns r 1 k) (w : World) (hh : Hp w h S ns) (hr : r.fits) :
    Calls Try.prog 14 #[pv h, r.val, .string s] w fun e w' => e = .returned (.tuple #[zR, .bool false, .int .i64 k]) ∧ Below w.heap.size w w' := by
  have hk : (k == 0) = false := by rcases hB.err with rfl | rfl <;> rfl
  have d1 : (k != 0) = true := by simp [bne, hk]
  have hd := fun w' (hb : Below w.heap.size w w') => (down_any h S ns r s w' (hh.agree (fun g hg => hb.block g (hh.lt g hg)) hb.size) hr).mono (R' := fun e w'' => Below w'.heap.size w' w'' ∧ e = .returned (.tuple #[.slice none 0 0, zN, .int .i64 k])) (fun e w'' hq => by rw [hB.down s 9 rfl] at hq; exact hq)
  clear hk
  obtain ⟨rk, rg, ro, rn⟩ := r
  have b0 : Below w.heap.size w (((w.alloc (.cells #[.int .u64 (rk : Int), .int .i64 rg, .int .i64 ro, .int .i64 rn] 27)).alloc (.cells #[.int .u64 0, .int .i64 0, .int .i64 0, .int .i64 0] 27)).alloc (.cells #[pv h] 111)) := ((((Below.refl _ _).alloc (by simp <;> omega) _).alloc (by simp <;> omega) _).alloc (by simp <;> omega) _)
  have kz := ((Blk.new (w.alloc (.cells #[.int .u64 (rk : Int), .int .i64 rg, .int .i64 ro, .int .i64 rn] 27)) 27 #[.int .u64 0, .int .i64 0, .int .i64 0, .int .i64 0]).alloc (.cells #[pv h] 111))
  simp only [World.size_alloc] at kz
  go_enter Try.func14, Try.ntmps14
  go_wp2_with fail
  refine (hd _ b0).mono ?_
  rintro e w1 ⟨hb1, rfl⟩
  have bw1 := b0.trans (hb1.mono b0.size)
  have s1 := hb1.size
  simp only [World.size_alloc] at s1
  have kz1 := (kz.below hb1 kz.lt).alloc (.cells #[.bool false, .slice none 0 0, .slice none 0 0] 60)
  have c0 := kz1.cell 0
  have f0 := kz1.frozen 0
  have c1 := kz1.cell 1
  have f1 := kz1.frozen 1
  have c2 := kz1.cell 2
  have f2 := kz1.frozen 2
  have c3 := kz1.cell 3
  have f3 := kz1.frozen 3
  simp at c0 c1 c2 c3
  have gl := kz1.lt
  have bz := bw1.alloc (by omega) (.cells #[.bool false, .slice none 0 0, .slice none 0 0] 60)
  have kz2 := ((((kz1.put 0 (.int .u64 0)).put 1 (.int .i64 0)).put 2 (.int .i64 0)).put 3 (.int .i64 0))
  have bz2 := ((((bz.setCell (p := ⟨(w.heap.size + 1), 0, none⟩) (by simp <;> omega) (.int .u64 0)).setCell (p := ⟨(w.heap.size + 1), 1, none⟩) (by simp <;> omega) (.int .i64 0)).setCell (p := ⟨(w.heap.size + 1), 2, none⟩) (by simp <;> omega) (.int .i64 0)).setCell (p := ⟨(w.heap.size + 1), 3, none⟩) (by simp <;> omega) (.int .i64 0))
  simp at kz2
  go_wp2_with fail
  generalize (((((w1.alloc (.cells #[.bool false, .slice none 0 0, .slice none 0 0] 60)).setCell ⟨(w.heap.size + 1), 0, none⟩ (.int .u64 0)).setCell ⟨(w.heap.size + 1), 1, none⟩ (.int .i64 0)).setCell ⟨(w.heap.size + 1), 2, none⟩ (.int .i64 0)).setCell ⟨(w.heap.size + 1), 3, none⟩ (.int .i64 0)) = wX at kz2 bz2 ⊢
  have c0 := kz2.cell 0
  have c1 := kz2.cell 1
  have c2 := kz2.cell 2
  have c3 := kz2.cell 3
  simp at c0 c1 c2 c3
  refine bodyPost_ret (v := (.tuple #[zR, .bool false, .int .i64 k])) (by simp [results, Try.results14, go_sem, c0, c1, c2, c3]) rfl ⟨rfl, bz2⟩

set_option maxRecDepth 100000 in
set_option maxHeartbeats 2000000 in
theorem move_bad (h : Nat) (S : Nat → Prop) (ns : List P3) (r : R) (A : Option Addr) (n c : Nat) (k : Int) (hB : Bad ns r 1 k) (w : World) (hh : Hp w h S ns) (hr : r.fits) :
    Calls Try.prog 17 #[pv h, r.val, .slice A n c] w fun e w' => e = .returned (.tuple #[zR, .int .i64 0, .int .i64 k]) ∧ Below w.heap.size w w' := by
  have hk : (k == 0) = false := by rcases hB.err with rfl | rfl <;> rfl
  have d1 : (k != 0) = true := by simp [bne, hk]
  have hd := fun w' (hb : Below w.heap.size w w') => all_bad h S ns r 1 k hB w' (hh.agree (fun g hg => hb.block g (hh.lt g hg)) hb.size) hr (by omega)
  clear hk
  obtain ⟨rk, rg, ro, rn⟩ := r
  have b0 : Below w.heap.size w (((w.alloc (.cells #[.int .u64 (rk : Int), .int .i64 rg, .int .i64 ro, .int .i64 rn] 27)).alloc (.cells #[.int .u64 0, .int .i64 0, .int .i64 0, .int .i64 0] 27)).alloc (.cells #[pv h] 111)) := ((((Below.refl _ _).alloc (by simp <;> omega) _).alloc (by simp <;> omega) _).alloc (by simp <;> omega) _)
  have kz := ((Blk.new (w.alloc (.cells #[.int .u64 (rk : Int), .int .i64 rg, .int .i64 ro, .int .i64 rn] 27)) 27 #[.int .u64 0, .int .i64 0, .int .i64 0, .int .i64 0]).alloc (.cells #[pv h] 111))
  simp only [World.size_alloc] at kz
  go_enter Try.func17, Try.ntmps17
  go_wp2_with fail
  refine (hd _ b0).mono ?_
  rintro e w1 ⟨rfl, hb1⟩
  have bw1 := b0.trans (hb1.mono b0.size)
  have s1 := hb1.size
  simp only [World.size_alloc] at s1
  have kz1 := (kz.below hb1 kz.lt)
  have c0 := kz1.cell 0
  have f0 := kz1.frozen 0
  have c1 := kz1.cell 1
  have f1 := kz1.frozen 1
  have c2 := kz1.cell 2
  have f2 := kz1.frozen 2
  have c3 := kz1.cell 3
  have f3 := kz1.frozen 3
  simp at c0 c1 c2 c3
  have gl := kz1.lt
  have bz := bw1
  have kz2 := ((((kz1.put 0 (.int .u64 0)).put 1 (.int .i64 0)).put 2 (.int .i64 0)).put 3 (.int .i64 0))
  have bz2 := ((((bz.setCell (p := ⟨(w.heap.size + 1), 0, none⟩) (by simp <;> omega) (.int .u64 0)).setCell (p := ⟨(w.heap.size + 1), 1, none⟩) (by simp <;> omega) (.int .i64 0)).setCell (p := ⟨(w.heap.size + 1), 2, none⟩) (by simp <;> omega) (.int .i64 0)).setCell (p := ⟨(w.heap.size + 1), 3, none⟩) (by simp <;> omega) (.int .i64 0))
  simp at kz2
  go_wp2_with fail
  generalize ((((w1.setCell ⟨(w.heap.size + 1), 0, none⟩ (.int .u64 0)).setCell ⟨(w.heap.size + 1), 1, none⟩ (.int .i64 0)).setCell ⟨(w.heap.size + 1), 2, none⟩ (.int .i64 0)).setCell ⟨(w.heap.size + 1), 3, none⟩ (.int .i64 0)) = wX at kz2 bz2 ⊢
  have c0 := kz2.cell 0
  have c1 := kz2.cell 1
  have c2 := kz2.cell 2
  have c3 := kz2.cell 3
  simp at c0 c1 c2 c3
  refine bodyPost_ret (v := (.tuple #[zR, .int .i64 0, .int .i64 k])) (by simp [results, Try.results17, go_sem, c0, c1, c2, c3]) rfl ⟨rfl, bz2⟩

set_option maxRecDepth 100000 in
set_option maxHeartbeats 2000000 in
theorem allT_bad (h : Nat) (S : Nat → Prop) (ns : List P3) (r : R) (k : Int) (hB : Bad ns r 1 k) (w : World) (hh : Hp w h S ns) (hr : r.fits) :
    Calls Try.prog 23 #[pv h, r.val] w fun e w' => e = .returned (.tuple #[.slice none 0 0, .int .i64 k]) ∧ Below w.heap.size w w' := by
  have hd := fun w' (hb : Below w.heap.size w w') => all_bad h S ns r 1 k hB w' (hh.agree (fun g hg => hb.block g (hh.lt g hg)) hb.size) hr (by omega)
  obtain ⟨rk, rg, ro, rn⟩ := r
  have b0 : Below w.heap.size w (w.alloc (.cells #[.int .u64 (rk : Int), .int .i64 rg, .int .i64 ro, .int .i64 rn] 27)) := (Below.refl _ _).alloc (Nat.le_refl _) _
  go_enter Try.func23, Try.ntmps23
  go_wp2_with fail
  refine (hd _ b0).mono ?_
  rintro e w1 ⟨rfl, hb1⟩
  go_wp2_with fail
  refine bodyPost_ret (v := .tuple #[.slice none 0 0, .int .i64 k]) (by simp [results, Try.results23, go_sem]) rfl ⟨rfl, b0.trans (hb1.mono b0.size)⟩

end Go.Proofs.Ytnndohdiiglgmaa.trees

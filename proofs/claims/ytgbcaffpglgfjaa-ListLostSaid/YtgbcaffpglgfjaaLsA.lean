/- The calls of list at what can't be read. -/
import Derived.Test.YtgbcaffpglgfjaaTrY


namespace Go.Proofs.Ytgbcaffpglgfjaa.trees
set_option linter.unusedVariables false
set_option linter.unusedSimpArgs false
open Go.RowKit Go.Proofs.Ytgbcaffpglgfjaa.base Go.Proofs.Ytgbcaffpglgfjaa.vers Go.Proofs.Ytgbcaffpglgfjaa.nodes Go.Proofs.Ytgbcaffpglgfjaa.quotas

abbrev rc (r : R) : Array Value := #[.int .u64 (r.k : Int), .int .i64 r.g, .int .i64 r.o, .int .i64 r.n]
abbrev bR (r : R) : Obj := .cells #[.int .u64 (r.k : Int), .int .i64 r.g, .int .i64 r.o, .int .i64 r.n] 27
abbrev bS (s : ByteArray) : Obj := .cells #[.string s] 9

set_option maxRecDepth 100000 in
set_option maxHeartbeats 2000000 in
theorem asked_bad (h : Nat) (S : Nat → Prop) (ns : List P3) (r : R) (fv : Value) (k : Int) (hB : Bad ns r 1 k) (w : World) (hh : Hp w h S ns) (hr : r.fits) :
    Calls Try.prog 69 #[pv h, r.val, fv] w fun e w' => e = .returned (.tuple #[.slice none 0 0, .int .i64 k]) ∧ Below w.heap.size w w' := by
  have hk : (k == 0) = false := by rcases hB.err with rfl | rfl <;> rfl
  have hk2 : (k != 0) = true := by simp [bne, hk]
  obtain ⟨rk, rg, ro, rn⟩ := r
  have hd := fun w' (hb : Below w.heap.size w w') => allT_bad h S ns ⟨rk, rg, ro, rn⟩ k hB w' (hh.agree (fun g hg => hb.block g (hh.lt g hg)) hb.size) hr
  have b0 : Below w.heap.size w (w.alloc (.cells #[.int .u64 (rk : Int), .int .i64 rg, .int .i64 ro, .int .i64 rn] 27)) := ((Below.refl _ _).alloc (by simp <;> omega) _)
  go_enter Try.func69, Try.ntmps69
  go_wp2_with fail
  refine (hd _ b0).mono ?_
  rintro e w1 ⟨rfl, hb1⟩
  go_wp2_with fail
  refine bodyPost_ret (v := .tuple #[.slice none 0 0, .int .i64 k]) (by simp [results, Try.results69, go_sem]) rfl ⟨rfl, b0.trans (hb1.mono b0.size)⟩

set_option maxRecDepth 100000 in
set_option maxHeartbeats 2000000 in
theorem names_bad (h : Nat) (S : Nat → Prop) (ns : List P3) (r : R) (A : Option Addr) (n c : Nat) (k : Int) (hB : Bad ns r 1 k) (w : World) (hh : Hp w h S ns) (hr : r.fits) :
    Calls Try.prog 34 #[pv h, r.val, .slice A n c] w fun e w' => e = .returned (.tuple #[.slice none 0 0, .int .i64 k]) ∧ Below w.heap.size w w' := by
  have hk : (k == 0) = false := by rcases hB.err with rfl | rfl <;> rfl
  have hk2 : (k != 0) = true := by simp [bne, hk]
  obtain ⟨rk, rg, ro, rn⟩ := r
  have hd := fun (fv : Value) w' (hb : Below w.heap.size w w') => asked_bad h S ns ⟨rk, rg, ro, rn⟩ fv k hB w' (hh.agree (fun g hg => hb.block g (hh.lt g hg)) hb.size) hr
  have b0 : Below w.heap.size w ((w.alloc (.cells #[.int .u64 (rk : Int), .int .i64 rg, .int .i64 ro, .int .i64 rn] 27)).alloc (.cells #[.slice A n c] 76)) := (((Below.refl _ _).alloc (by simp <;> omega) _).alloc (by simp <;> omega) _)
  go_enter Try.func34, Try.ntmps34
  go_wp2_with fail
  refine (hd _ _ b0).mono ?_
  rintro e w1 ⟨rfl, hb1⟩
  go_wp2_with fail
  refine bodyPost_ret (v := .tuple #[.slice none 0 0, .int .i64 k]) (by simp [results, Try.results34, go_sem]) rfl ⟨rfl, b0.trans (hb1.mono b0.size)⟩

set_option maxRecDepth 100000 in
set_option maxHeartbeats 2000000 in
theorem range_bad (h : Nat) (S : Nat → Prop) (ns : List P3) (r : R) (s t : ByteArray) (k : Int) (hB : Bad ns r 1 k) (w : World) (hh : Hp w h S ns) (hr : r.fits) :
    Calls Try.prog 37 #[pv h, r.val, .string s, .string t] w fun e w' => e = .returned (.tuple #[.slice none 0 0, .int .i64 k]) ∧ Below w.heap.size w w' := by
  have hk : (k == 0) = false := by rcases hB.err with rfl | rfl <;> rfl
  have hk2 : (k != 0) = true := by simp [bne, hk]
  obtain ⟨rk, rg, ro, rn⟩ := r
  have hd := fun (fv : Value) w' (hb : Below w.heap.size w w') => asked_bad h S ns ⟨rk, rg, ro, rn⟩ fv k hB w' (hh.agree (fun g hg => hb.block g (hh.lt g hg)) hb.size) hr
  have b0 : Below w.heap.size w (((w.alloc (.cells #[.int .u64 (rk : Int), .int .i64 rg, .int .i64 ro, .int .i64 rn] 27)).alloc (.cells #[.string s] 9)).alloc (.cells #[.string t] 9)) := ((((Below.refl _ _).alloc (by simp <;> omega) _).alloc (by simp <;> omega) _).alloc (by simp <;> omega) _)
  go_enter Try.func37, Try.ntmps37
  go_wp2_with fail
  refine (hd _ _ b0).mono ?_
  rintro e w1 ⟨rfl, hb1⟩
  go_wp2_with fail
  refine bodyPost_ret (v := .tuple #[.slice none 0 0, .int .i64 k]) (by simp [results, Try.results37, go_sem]) rfl ⟨rfl, b0.trans (hb1.mono b0.size)⟩

set_option maxRecDepth 100000 in
set_option maxHeartbeats 2000000 in
theorem count_bad (h : Nat) (S : Nat → Prop) (ns : List P3) (r : R)  (k : Int) (hB : Bad ns r 1 k) (w : World) (hh : Hp w h S ns) (hr : r.fits) :
    Calls Try.prog 38 #[pv h, r.val] w fun e w' => e = .returned (.tuple #[.int .i64 0, .int .i64 k]) ∧ Below w.heap.size w w' := by
  have hk : (k == 0) = false := by rcases hB.err with rfl | rfl <;> rfl
  have hk2 : (k != 0) = true := by simp [bne, hk]
  obtain ⟨rk, rg, ro, rn⟩ := r
  have hd := fun (fv : Value) w' (hb : Below w.heap.size w w') => asked_bad h S ns ⟨rk, rg, ro, rn⟩ fv k hB w' (hh.agree (fun g hg => hb.block g (hh.lt g hg)) hb.size) hr
  have b0 : Below w.heap.size w (w.alloc (.cells #[.int .u64 (rk : Int), .int .i64 rg, .int .i64 ro, .int .i64 rn] 27)) := ((Below.refl _ _).alloc (by simp <;> omega) _)
  go_enter Try.func38, Try.ntmps38
  go_wp2_with fail
  refine (hd _ _ b0).mono ?_
  rintro e w1 ⟨rfl, hb1⟩
  go_wp2_with fail
  refine bodyPost_ret (v := .tuple #[.int .i64 0, .int .i64 k]) (by simp [results, Try.results38, go_sem]) rfl ⟨rfl, b0.trans (hb1.mono b0.size)⟩

set_option maxRecDepth 100000 in
set_option maxHeartbeats 2000000 in
theorem nth_bad (h : Nat) (S : Nat → Prop) (ns : List P3) (r : R) (n : Int) (k : Int) (hB : Bad ns r 1 k) (w : World) (hh : Hp w h S ns) (hr : r.fits) :
    Calls Try.prog 39 #[pv h, r.val, .int .i64 n] w fun e w' => e = .returned (.tuple #[.agg #[.string ⟨#[]⟩, .slice none 0 0], .bool false, .int .i64 k]) ∧ Below w.heap.size w w' := by
  have hk : (k == 0) = false := by rcases hB.err with rfl | rfl <;> rfl
  have hk2 : (k != 0) = true := by simp [bne, hk]
  obtain ⟨rk, rg, ro, rn⟩ := r
  have hd := fun (fv : Value) w' (hb : Below w.heap.size w w') => asked_bad h S ns ⟨rk, rg, ro, rn⟩ fv k hB w' (hh.agree (fun g hg => hb.block g (hh.lt g hg)) hb.size) hr
  have b0 : Below w.heap.size w ((w.alloc (.cells #[.int .u64 (rk : Int), .int .i64 rg, .int .i64 ro, .int .i64 rn] 27)).alloc (.cells #[.string ⟨#[]⟩, .slice none 0 0] 47)) := (((Below.refl _ _).alloc (by simp <;> omega) _).alloc (by simp <;> omega) _)
  have kz := Blk.new (w.alloc (.cells #[.int .u64 (rk : Int), .int .i64 rg, .int .i64 ro, .int .i64 rn] 27)) 47 #[.string ⟨#[]⟩, .slice none 0 0]
  simp only [World.size_alloc] at kz
  go_enter Try.func39, Try.ntmps39
  go_wp2_with fail
  refine (hd _ _ b0).mono ?_
  rintro e w1 ⟨rfl, hb1⟩
  have kz := kz.below hb1 kz.lt
  have bz := b0.trans (hb1.mono b0.size)
  have c0 := kz.cell 0
  have f0 := kz.frozen 0
  have c1 := kz.cell 1
  have f1 := kz.frozen 1
  simp at c0 c1
  have gl := kz.lt
  have kz2 := ((kz.put 0 (.string ⟨#[]⟩)).put 1 (.slice none 0 0))
  have bz2 := ((bz.setCell (p := ⟨(w.heap.size + 1), 0, none⟩) (by simp <;> omega) (.string ⟨#[]⟩)).setCell (p := ⟨(w.heap.size + 1), 1, none⟩) (by simp <;> omega) (.slice none 0 0))
  simp at kz2
  by_cases hn : n < (0 : Int)
  · go_wp2_with fail
    generalize ((w1.setCell ⟨(w.heap.size + 1), 0, none⟩ (.string ⟨#[]⟩)).setCell ⟨(w.heap.size + 1), 1, none⟩ (.slice none 0 0)) = wX at kz2 bz2 ⊢
    have c0 := kz2.cell 0
    have c1 := kz2.cell 1
    simp at c0 c1
    refine bodyPost_ret (v := (.tuple #[.agg #[.string ⟨#[]⟩, .slice none 0 0], .bool false, .int .i64 k])) (by simp [results, Try.results39, go_sem, c0, c1]) rfl ⟨rfl, bz2⟩
  · have hn2 : (0 : Int) ≤ n := by omega
    go_wp2_with fail
    generalize ((w1.setCell ⟨(w.heap.size + 1), 0, none⟩ (.string ⟨#[]⟩)).setCell ⟨(w.heap.size + 1), 1, none⟩ (.slice none 0 0)) = wX at kz2 bz2 ⊢
    have c0 := kz2.cell 0
    have c1 := kz2.cell 1
    simp at c0 c1
    refine bodyPost_ret (v := (.tuple #[.agg #[.string ⟨#[]⟩, .slice none 0 0], .bool false, .int .i64 k])) (by simp [results, Try.results39, go_sem, c0, c1]) rfl ⟨rfl, bz2⟩

set_option maxRecDepth 100000 in
set_option maxHeartbeats 2000000 in
theorem floor_bad (h : Nat) (S : Nat → Prop) (ns : List P3) (r : R) (s : ByteArray) (k : Int) (hB : Bad ns r 1 k) (w : World) (hh : Hp w h S ns) (hr : r.fits) :
    Calls Try.prog 41 #[pv h, r.val, .string s] w fun e w' => e = .returned (.tuple #[.agg #[.string ⟨#[]⟩, .slice none 0 0], .bool false, .int .i64 k]) ∧ Below w.heap.size w w' := by
  have hk : (k == 0) = false := by rcases hB.err with rfl | rfl <;> rfl
  have hk2 : (k != 0) = true := by simp [bne, hk]
  obtain ⟨rk, rg, ro, rn⟩ := r
  have hd := fun (fv : Value) w' (hb : Below w.heap.size w w') => asked_bad h S ns ⟨rk, rg, ro, rn⟩ fv k hB w' (hh.agree (fun g hg => hb.block g (hh.lt g hg)) hb.size) hr
  have b0 : Below w.heap.size w (((w.alloc (.cells #[.int .u64 (rk : Int), .int .i64 rg, .int .i64 ro, .int .i64 rn] 27)).alloc (.cells #[.string s] 9)).alloc (.cells #[.string ⟨#[]⟩, .slice none 0 0] 47)) := ((((Below.refl _ _).alloc (by simp <;> omega) _).alloc (by simp <;> omega) _).alloc (by simp <;> omega) _)
  have kz := Blk.new ((w.alloc (.cells #[.int .u64 (rk : Int), .int .i64 rg, .int .i64 ro, .int .i64 rn] 27)).alloc (.cells #[.string s] 9)) 47 #[.string ⟨#[]⟩, .slice none 0 0]
  simp only [World.size_alloc] at kz
  go_enter Try.func41, Try.ntmps41
  go_wp2_with fail
  refine (hd _ _ b0).mono ?_
  rintro e w1 ⟨rfl, hb1⟩
  have kz := kz.below hb1 kz.lt
  have bz := b0.trans (hb1.mono b0.size)
  have c0 := kz.cell 0
  have f0 := kz.frozen 0
  have c1 := kz.cell 1
  have f1 := kz.frozen 1
  simp at c0 c1
  have gl := kz.lt
  have kz2 := ((kz.put 0 (.string ⟨#[]⟩)).put 1 (.slice none 0 0))
  have bz2 := ((bz.setCell (p := ⟨(w.heap.size + 1 + 1), 0, none⟩) (by simp <;> omega) (.string ⟨#[]⟩)).setCell (p := ⟨(w.heap.size + 1 + 1), 1, none⟩) (by simp <;> omega) (.slice none 0 0))
  simp at kz2
  go_wp2_with fail
  generalize ((w1.setCell ⟨(w.heap.size + 1 + 1), 0, none⟩ (.string ⟨#[]⟩)).setCell ⟨(w.heap.size + 1 + 1), 1, none⟩ (.slice none 0 0)) = wX at kz2 bz2 ⊢
  have c0 := kz2.cell 0
  have c1 := kz2.cell 1
  simp at c0 c1
  refine bodyPost_ret (v := (.tuple #[.agg #[.string ⟨#[]⟩, .slice none 0 0], .bool false, .int .i64 k])) (by simp [results, Try.results41, go_sem, c0, c1]) rfl ⟨rfl, bz2⟩

set_option maxRecDepth 100000 in
set_option maxHeartbeats 2000000 in
theorem shape_bad (h : Nat) (S : Nat → Prop) (ns : List P3) (r : R) (q00 q01 q02 q03 q04 q05 q06 : Int) (k : Int) (hB : Bad ns r 1 k) (w : World) (hh : Hp w h S ns) (hr : r.fits) (hq : ok q00 q01 q02 q03 q04 q05 q06) :
    Calls Try.prog 46 #[.agg #[.int .i64 q00, .int .i64 q01, .int .i64 q02, .int .i64 q03, .int .i64 q04, .int .i64 q05, .int .i64 q06], pv h, r.val] w fun e w' => e = .returned (.tuple #[.agg #[.int .i64 0, .int .i64 0, .int .i64 0, .int .i64 0], .int .i64 k]) ∧ Below w.heap.size w w' := by
  have hk : (k == 0) = false := by rcases hB.err with rfl | rfl <;> rfl
  have hk2 : (k != 0) = true := by simp [bne, hk]
  have hd := fun w' (hb : Below w.heap.size w w') => allT_bad h S ns r k hB w' (hh.agree (fun g hg => hb.block g (hh.lt g hg)) hb.size) hr
  obtain ⟨rk, rg, ro, rn⟩ := r
  have b0 : Below w.heap.size w (((w.alloc (.cells #[.int .i64 q00, .int .i64 q01, .int .i64 q02, .int .i64 q03, .int .i64 q04, .int .i64 q05, .int .i64 q06] 97)).alloc (.cells #[.int .u64 (rk : Int), .int .i64 rg, .int .i64 ro, .int .i64 rn] 27)).alloc (.cells #[.int .i64 0, .int .i64 0, .int .i64 0, .int .i64 0] 100)) := ((((Below.refl _ _).alloc (by simp <;> omega) _).alloc (by simp <;> omega) _).alloc (by simp <;> omega) _)
  have kz := Blk.new ((w.alloc (.cells #[.int .i64 q00, .int .i64 q01, .int .i64 q02, .int .i64 q03, .int .i64 q04, .int .i64 q05, .int .i64 q06] 97)).alloc (.cells #[.int .u64 (rk : Int), .int .i64 rg, .int .i64 ro, .int .i64 rn] 27)) 100 #[.int .i64 0, .int .i64 0, .int .i64 0, .int .i64 0]
  have kr := (Blk.new (w.alloc (.cells #[.int .i64 q00, .int .i64 q01, .int .i64 q02, .int .i64 q03, .int .i64 q04, .int .i64 q05, .int .i64 q06] 97)) 27 #[.int .u64 (rk : Int), .int .i64 rg, .int .i64 ro, .int .i64 rn]).alloc (.cells #[.int .i64 0, .int .i64 0, .int .i64 0, .int .i64 0] 100)
  simp only [World.size_alloc] at kz kr
  go_enter Try.func46, Try.ntmps46
  go_wp2_with fail
  refine (right_ok q00 q01 q02 q03 q04 q05 q06 _ hq).mono ?_
  rintro e w1 ⟨rfl, hb1⟩
  have kz := kz.below hb1 kz.lt
  have kr := kr.below hb1 kr.lt
  have bz := b0.trans (hb1.mono b0.size)
  have r0 := kr.cell 0
  have r1 := kr.cell 1
  have r2 := kr.cell 2
  have r3 := kr.cell 3
  simp at r0 r1 r2 r3
  go_wp2_with fail
  refine (hd _ bz).mono ?_
  rintro e w2 ⟨rfl, hb2⟩
  have kz := kz.below hb2 kz.lt
  have bz := bz.trans (hb2.mono bz.size)
  have c0 := kz.cell 0
  have f0 := kz.frozen 0
  have c1 := kz.cell 1
  have f1 := kz.frozen 1
  have c2 := kz.cell 2
  have f2 := kz.frozen 2
  have c3 := kz.cell 3
  have f3 := kz.frozen 3
  simp at c0 c1 c2 c3
  have gl := kz.lt
  have kz2 := ((((kz.put 0 (.int .i64 0)).put 1 (.int .i64 0)).put 2 (.int .i64 0)).put 3 (.int .i64 0))
  have bz2 := ((((bz.setCell (p := ⟨(w.heap.size + 1 + 1), 0, none⟩) (by simp <;> omega) (.int .i64 0)).setCell (p := ⟨(w.heap.size + 1 + 1), 1, none⟩) (by simp <;> omega) (.int .i64 0)).setCell (p := ⟨(w.heap.size + 1 + 1), 2, none⟩) (by simp <;> omega) (.int .i64 0)).setCell (p := ⟨(w.heap.size + 1 + 1), 3, none⟩) (by simp <;> omega) (.int .i64 0))
  simp at kz2
  go_wp2_with fail
  generalize ((((w2.setCell ⟨(w.heap.size + 1 + 1), 0, none⟩ (.int .i64 0)).setCell ⟨(w.heap.size + 1 + 1), 1, none⟩ (.int .i64 0)).setCell ⟨(w.heap.size + 1 + 1), 2, none⟩ (.int .i64 0)).setCell ⟨(w.heap.size + 1 + 1), 3, none⟩ (.int .i64 0)) = wX at kz2 bz2 ⊢
  have c0 := kz2.cell 0
  have c1 := kz2.cell 1
  have c2 := kz2.cell 2
  have c3 := kz2.cell 3
  simp at c0 c1 c2 c3
  refine bodyPost_ret (v := (.tuple #[.agg #[.int .i64 0, .int .i64 0, .int .i64 0, .int .i64 0], .int .i64 k])) (by simp [results, Try.results46, go_sem, c0, c1, c2, c3]) rfl ⟨rfl, bz2⟩

set_option maxRecDepth 100000 in
set_option maxHeartbeats 2000000 in
theorem shape_no (h : Nat) (S : Nat → Prop) (ns : List P3) (r : R) (q00 q01 q02 q03 q04 q05 q06 : Int) (k : Int) (hB : Bad ns r 1 k) (w : World) (hh : Hp w h S ns) (hr : r.fits) (hq : ¬ ok q00 q01 q02 q03 q04 q05 q06) :
    Calls Try.prog 46 #[.agg #[.int .i64 q00, .int .i64 q01, .int .i64 q02, .int .i64 q03, .int .i64 q04, .int .i64 q05, .int .i64 q06], pv h, r.val] w fun e w' => e = .returned (.tuple #[.agg #[.int .i64 0, .int .i64 0, .int .i64 0, .int .i64 0], .int .i64 40]) ∧ Below w.heap.size w w' := by
  have hk : (k == 0) = false := by rcases hB.err with rfl | rfl <;> rfl
  have hk2 : (k != 0) = true := by simp [bne, hk]
  have hd := fun w' (hb : Below w.heap.size w w') => allT_bad h S ns r k hB w' (hh.agree (fun g hg => hb.block g (hh.lt g hg)) hb.size) hr
  obtain ⟨rk, rg, ro, rn⟩ := r
  have b0 : Below w.heap.size w (((w.alloc (.cells #[.int .i64 q00, .int .i64 q01, .int .i64 q02, .int .i64 q03, .int .i64 q04, .int .i64 q05, .int .i64 q06] 97)).alloc (.cells #[.int .u64 (rk : Int), .int .i64 rg, .int .i64 ro, .int .i64 rn] 27)).alloc (.cells #[.int .i64 0, .int .i64 0, .int .i64 0, .int .i64 0] 100)) := ((((Below.refl _ _).alloc (by simp <;> omega) _).alloc (by simp <;> omega) _).alloc (by simp <;> omega) _)
  have kz := Blk.new ((w.alloc (.cells #[.int .i64 q00, .int .i64 q01, .int .i64 q02, .int .i64 q03, .int .i64 q04, .int .i64 q05, .int .i64 q06] 97)).alloc (.cells #[.int .u64 (rk : Int), .int .i64 rg, .int .i64 ro, .int .i64 rn] 27)) 100 #[.int .i64 0, .int .i64 0, .int .i64 0, .int .i64 0]
  have kr := (Blk.new (w.alloc (.cells #[.int .i64 q00, .int .i64 q01, .int .i64 q02, .int .i64 q03, .int .i64 q04, .int .i64 q05, .int .i64 q06] 97)) 27 #[.int .u64 (rk : Int), .int .i64 rg, .int .i64 ro, .int .i64 rn]).alloc (.cells #[.int .i64 0, .int .i64 0, .int .i64 0, .int .i64 0] 100)
  simp only [World.size_alloc] at kz kr
  go_enter Try.func46, Try.ntmps46
  go_wp2_with fail
  refine (right_no q00 q01 q02 q03 q04 q05 q06 _ hq).mono ?_
  rintro e w1 ⟨rfl, hb1⟩
  have kz := kz.below hb1 kz.lt
  have kr := kr.below hb1 kr.lt
  have bz := b0.trans (hb1.mono b0.size)
  have c0 := kz.cell 0
  have f0 := kz.frozen 0
  have c1 := kz.cell 1
  have f1 := kz.frozen 1
  have c2 := kz.cell 2
  have f2 := kz.frozen 2
  have c3 := kz.cell 3
  have f3 := kz.frozen 3
  simp at c0 c1 c2 c3
  have gl := kz.lt
  have kz2 := ((((kz.put 0 (.int .i64 0)).put 1 (.int .i64 0)).put 2 (.int .i64 0)).put 3 (.int .i64 0))
  have bz2 := ((((bz.setCell (p := ⟨(w.heap.size + 1 + 1), 0, none⟩) (by simp <;> omega) (.int .i64 0)).setCell (p := ⟨(w.heap.size + 1 + 1), 1, none⟩) (by simp <;> omega) (.int .i64 0)).setCell (p := ⟨(w.heap.size + 1 + 1), 2, none⟩) (by simp <;> omega) (.int .i64 0)).setCell (p := ⟨(w.heap.size + 1 + 1), 3, none⟩) (by simp <;> omega) (.int .i64 0))
  simp at kz2
  go_wp2_with fail
  generalize ((((w1.setCell ⟨(w.heap.size + 1 + 1), 0, none⟩ (.int .i64 0)).setCell ⟨(w.heap.size + 1 + 1), 1, none⟩ (.int .i64 0)).setCell ⟨(w.heap.size + 1 + 1), 2, none⟩ (.int .i64 0)).setCell ⟨(w.heap.size + 1 + 1), 3, none⟩ (.int .i64 0)) = wX at kz2 bz2 ⊢
  have c0 := kz2.cell 0
  have c1 := kz2.cell 1
  have c2 := kz2.cell 2
  have c3 := kz2.cell 3
  simp at c0 c1 c2 c3
  refine bodyPost_ret (v := (.tuple #[.agg #[.int .i64 0, .int .i64 0, .int .i64 0, .int .i64 0], .int .i64 40])) (by simp [results, Try.results46, go_sem, c0, c1, c2, c3]) rfl ⟨rfl, bz2⟩

end Go.Proofs.Ytgbcaffpglgfjaa.trees

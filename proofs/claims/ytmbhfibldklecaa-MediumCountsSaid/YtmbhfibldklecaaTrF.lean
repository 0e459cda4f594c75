/- A heap's Write. -/
import Derived.Test.YtmbhfibldklecaaTrE
import Derived.Test.YtmbhfibldklecaaTrG


namespace Go.Proofs.Ytmbhfibldklecaa.trees
set_option linter.unusedVariables false
set_option linter.unusedSimpArgs false
open Go.RowKit Go.Proofs.Ytmbhfibldklecaa.base Go.Proofs.Ytmbhfibldklecaa.vers Go.Proofs.Ytmbhfibldklecaa.nodes Go.Proofs.Ytmbhfibldklecaa.quotas

theorem infoN : (Try.prog.info? 60).map (fun i => (i.zero, i.size, i.bytes)) = some (some (.agg #[.bool false, .slice none 0 0, .slice none 0 0]), 3, 56) := by kernel_rfl
abbrev More (S : Nat → Prop) (w w' : World) (g : Nat) : Prop := S g ∨ (w.heap.size ≤ g ∧ g < w'.heap.size)
/-- what Write leaves -/
def WPost (w : World) (h : Nat) (S : Nat → Prop) (ns : List P3) (x : P3) (e : Ending) (w' : World) : Prop := Keep S w w' ∧
  if ns.length < 20000 then e = .returned (.tuple #[(refOf ns.length).val, .int .i64 0]) ∧ Hp w' h (More S w w') (ns ++ [x])
  else e = .returned (.tuple #[.agg #[.int .u64 0, .int .i64 0, .int .i64 0, .int .i64 0], .int .i64 2]) ∧ Hp w' h S ns
def four4 (w : World) (g : Nat) (a b c d : Value) : World := (((w.setCell ⟨g, 0, none⟩ a).setCell ⟨g, 1, none⟩ b).setCell ⟨g, 2, none⟩ c).setCell ⟨g, 3, none⟩ d
theorem four4_heap (w : World) (g : Nat) (a b c d : Value) (k : Nat) (h : k ≠ g) : (four4 w g a b c d).heap[k]? = w.heap[k]? := by
  unfold four4
  rw [Below.heap_setCell _ _ _ _ (by simpa using h), Below.heap_setCell _ _ _ _ (by simpa using h), Below.heap_setCell _ _ _ _ (by simpa using h), Below.heap_setCell _ _ _ _ (by simpa using h)]
theorem four4_size (w : World) (g : Nat) (a b c d : Value) : (four4 w g a b c d).heap.size = w.heap.size := by simp [four4]
theorem four4_keep {S : Nat → Prop} {w w' : World} (h : Keep S w w') {g : Nat} (hg : w.heap.size ≤ g) (a b c d : Value) : Keep S w (four4 w' g a b c d) :=
  ⟨h.os, h.tape, h.output, by rw [four4_size]; exact h.size, fun k hk hn => (four4_heap _ _ _ _ _ _ _ (by omega)).trans (h.block k hk hn)⟩
theorem four4_below {B g : Nat} {w w' : World} (h : Below B w w') (hg : B ≤ g) (a b c d : Value) : Below B w (four4 w' g a b c d) :=
  (((h.setCell (p := ⟨g, 0, none⟩) hg a).setCell (p := ⟨g, 1, none⟩) hg b).setCell (p := ⟨g, 2, none⟩) hg c).setCell (p := ⟨g, 3, none⟩) hg d
theorem Hp.four {w : World} {h : Nat} {S : Nat → Prop} {ns : List P3} (hh : Hp w h S ns) {g : Nat} (hg : ¬ S g) (a b c d : Value) : Hp (four4 w g a b c d) h S ns :=
  hh.agree (fun k hk => four4_heap _ _ _ _ _ _ _ (fun e => hg (e ▸ hk))) (by rw [four4_size]; exact Nat.le_refl _)
theorem Hp.mono {w : World} {h : Nat} {S S' : Nat → Prop} {ns : List P3} (hh : Hp w h S ns) (hS : ∀ g, S g → S' g) (hl : ∀ g, S' g → g < w.heap.size) : Hp w h S' ns := by
  obtain ⟨v, l, h1, h2, h3, h4, h5, h6, h7, h8⟩ := hh
  exact ⟨v, l, h1, hS h h2, hl, h4, h5, fun g hg => ⟨hS g (h6 g hg).1, (h6 g hg).2⟩, h7, fun x hx => (h8 x hx).mono fun g hg => ⟨hS g hg.1, hg.2⟩⟩

/-- the page is appended, the heap's own cell is set -/
theorem Hp.put {w w1 w2 : World} {h : Nat} {S : Nat → Prop} {l : List N} {v v' : Value} {y : N} (hS : S h) (hlt : ∀ g, S g → g < w.heap.size) (hk : Blk w h 102 #[v]) (hv : ∀ g, v.ownBlock = some g → S g ∧ g ≠ h) (hl : l.length < 20000)
    (hns : ∀ x ∈ l, NsF w (fun g => S g ∧ g ≠ h ∧ some g ≠ v.ownBlock) x) (hb : Below w.heap.size w w1) (B : Nat) (hB : w.heap.size ≤ B ∧ B ≤ w1.heap.size) (hy : OwnNF w1 (fun g => B ≤ g ∧ g < w1.heap.size) y) (hK : Keep (fun g => v.ownBlock = some g) w1 w2)
    (ho : w2.ownsRow 0 60 3 v' (l.length + 1) (cellsN l ++ y.cells)) (hv' : ∀ g, v'.ownBlock = some g → v.ownBlock = some g ∨ (w1.heap.size ≤ g ∧ g < w2.heap.size)) :
    Hp (w2.setCell ⟨h, 0, none⟩ v') h (fun g => S g ∨ (B ≤ g ∧ g < w2.heap.size)) (l.map N.p ++ [y.p]) ∧ Keep S w (w2.setCell ⟨h, 0, none⟩ v') := by
  have hs1 := hb.size
  have hs2 := hK.size
  have hh := hlt h hS
  have hn : v.ownBlock ≠ some h := fun e => (hv h e).2 rfl
  have hfar : ∀ k, k ≠ h → (w2.setCell ⟨h, 0, none⟩ v').heap[k]? = w2.heap[k]? := fun k hk => Below.heap_setCell _ _ _ _ (by simpa using hk)
  have hvh : ∀ g, v'.ownBlock = some g → g ≠ h := fun g hg e => by
    rcases hv' g hg with h1 | h1
    · exact (hv g h1).2 e
    · omega
  refine ⟨⟨v', l ++ [y], by simp, .inl hS, fun g hg => ?_, ?_, ?_, ?_, ?_, ?_⟩, ?_⟩
  · rw [World.size_setCell]
    rcases hg with hg | hg
    · have := hlt g hg; omega
    · exact hg.2
  · exact ((hK.blk (Blk.below hk hb hh) hn).put 0 v')
  · rw [List.length_append, List.length_singleton, cellsN_app]
    have h1 : cellsN [y] = y.cells := by simp [cellsN]
    rw [h1]
    exact ownsRow_agree ho fun g hg => hfar g (hvh g hg)
  · intro g hg
    refine ⟨?_, hvh g hg⟩
    rcases hv' g hg with h1 | h1
    · exact .inl (hv g h1).1
    · exact .inr ⟨by omega, h1.2⟩
  · simp; omega
  · intro x hx
    rcases List.mem_append.1 hx with h1 | h1
    · refine ((hns x h1).agree (fun g hg => ?_)).mono fun g hg => ⟨.inl hg.1, hg.2.1, fun e => ?_⟩
      · have hg1 := hlt g hg.1
        exact (hfar g hg.2.1).trans ((hK.block g (by omega) (fun e => hg.2.2 e.symm)).trans (hb.block g hg1))
      · rcases hv' g e.symm with h2 | h2
        · exact hg.2.2 h2.symm
        · have := hlt g hg.1; omega
    · rw [List.mem_singleton.1 h1]
      refine ((hy.ns).agree (fun g hg => ?_)).mono fun g hg => ⟨.inr ⟨by omega, by omega⟩, fun e => ?_, fun e => ?_⟩
      · exact (hfar g (by omega)).trans (hK.block g hg.2 (fun e => by have := hlt g (hv g e).1; omega))
      · have := hg.1; omega
      · rcases hv' g e.symm with h2 | h2
        · have := hlt g (hv g h2).1; omega
        · have := hg.2; omega
  · refine ⟨hK.os.trans hb.os, hK.tape.trans hb.tape, hK.output.trans hb.output, (by simp; omega), fun k hk hn => ?_⟩
    exact (hfar k (fun e => hn (e ▸ hS))).trans ((hK.block k (by omega) (fun e => hn (hv k e).1)).trans (hb.block k hk))

set_option maxRecDepth 100000 in
set_option maxHeartbeats 2000000 in
theorem write_long (lf : Bool) (es : List E) (ks : List K) (A : Option Addr) (c : Nat) (Q : Option Addr) (m : Nat) (h : Nat) (S : Nat → Prop) (ns : List P3) (w : World) (hh : Hp w h S ns) (hn : ¬ ns.length < 20000) :
    Calls Try.prog 149 #[.pointer (some ⟨h, 0, none⟩), .agg #[.bool lf, .slice A es.length c, .slice Q ks.length m]] w (WPost w h S ns (lf, es.map pe, ks)) := by
  have hfin : ∀ e w', Below w.heap.size w w' → e = .returned (.tuple #[.agg #[.int .u64 0, .int .i64 0, .int .i64 0, .int .i64 0], .int .i64 2]) → WPost w h S ns (lf, es.map pe, ks) e w' := fun e w' hb he => ⟨Keep.of_below hb, by rw [if_neg hn]; exact ⟨he, hh.below hb⟩⟩
  obtain ⟨v, l, rfl, h2, h3, hb, ho, hv1, hl20, hv2⟩ := id hh
  obtain ⟨PA, pc, rfl, hlc, _, _⟩ := row_rdF ho
  rw [List.length_map] at hn
  have k1 := (Blk.new w 60 #[.bool lf, .slice A es.length c, .slice Q ks.length m]).alloc (.cells #[.int .u64 0, .int .i64 0, .int .i64 0, .int .i64 0] 27)
  have k2 := Blk.new (w.alloc (.cells #[.bool lf, .slice A es.length c, .slice Q ks.length m] 60)) 27 #[.int .u64 0, .int .i64 0, .int .i64 0, .int .i64 0]
  have bW : Below w.heap.size w ((w.alloc (.cells #[.bool lf, .slice A es.length c, .slice Q ks.length m] 60)).alloc (.cells #[.int .u64 0, .int .i64 0, .int .i64 0, .int .i64 0] 27)) := ((Below.refl _ _).alloc (Nat.le_refl _) _).alloc (by simp) _
  rw [World.size_alloc] at k2
  have x0 := hb.cell 0
  have l0 := hb.lt
  simp at x0
  have i3 : (l.length : Int) ≤ 140737488355328 := by omega
  have d1 : decide ((20000 : Int) ≤ (l.length : Int)) = true := decide_eq_true (by omega)
  go_enter Try.func149, Try.ntmps149
  go_wp2_with fail
  refine bodyPost_ret (v := .tuple #[.agg #[.int .u64 0, .int .i64 0, .int .i64 0, .int .i64 0], .int .i64 2]) (by simp [results, Try.results149, go_sem]) rfl (hfin _ _ ?_ rfl)
  first | exact bW | exact four4_below bW (by simp) _ _ _ _

set_option maxRecDepth 100000 in
set_option maxHeartbeats 2000000 in
theorem write_ok (lf : Bool) (es : List E) (ks : List K) (A : Option Addr) (c : Nat) (Q : Option Addr) (m : Nat) (h : Nat) (S : Nat → Prop) (ns : List P3) (w : World) (hh : Hp w h S ns) (hn : ns.length < 20000) (hv : Es w w.heap.size es A c) (hk : Ks w w.heap.size ks Q m) :
    Calls Try.prog 149 #[.pointer (some ⟨h, 0, none⟩), .agg #[.bool lf, .slice A es.length c, .slice Q ks.length m]] w (WPost w h S ns (lf, es.map pe, ks)) := by
  obtain ⟨i0, hi0, hz0, hz1, hz2⟩ := info_parts infoN
  have hHn := vers.lay hn
  obtain ⟨v, l, rfl, h2, h3, hb, ho, hv1, hl20, hv2⟩ := id hh
  obtain ⟨PA, pc, rfl, hlc, _, _⟩ := row_rdF ho
  rw [List.length_map] at hn
  have k1 := (Blk.new w 60 #[.bool lf, .slice A es.length c, .slice Q ks.length m]).alloc (.cells #[.int .u64 0, .int .i64 0, .int .i64 0, .int .i64 0] 27)
  have k2 := Blk.new (w.alloc (.cells #[.bool lf, .slice A es.length c, .slice Q ks.length m] 60)) 27 #[.int .u64 0, .int .i64 0, .int .i64 0, .int .i64 0]
  have bW : Below w.heap.size w ((w.alloc (.cells #[.bool lf, .slice A es.length c, .slice Q ks.length m] 60)).alloc (.cells #[.int .u64 0, .int .i64 0, .int .i64 0, .int .i64 0] 27)) := ((Below.refl _ _).alloc (Nat.le_refl _) _).alloc (by simp) _
  rw [World.size_alloc] at k2
  have x0 := hb.cell 0
  have l0 := hb.lt
  simp at x0
  have i3 : (l.length : Int) ≤ 140737488355328 := by omega
  have d1 : decide ((20000 : Int) ≤ (l.length : Int)) = false := decide_eq_false (by omega)
  go_enter Try.func149, Try.ntmps149
  go_wp2_with fail
  generalize (w.alloc (.cells #[.bool lf, .slice A es.length c, .slice Q ks.length m] 60)).alloc (.cells #[.int .u64 0, .int .i64 0, .int .i64 0, .int .i64 0] 27) = W at *
  have y0 := (bW.cell (p := ⟨h, 0, none⟩) (by simpa using l0)).trans x0
  have z0 := k1.cell 0
  have z1 := k1.cell 1
  have z2 := k1.cell 2
  simp at z0 z1 z2
  have l1 := k1.lt
  have l2 := k2.lt
  have l8 : h < W.heap.size := Nat.lt_of_lt_of_le l0 bW.size
  have hne0 : ¬ (Value.slice PA l.length pc).ownBlock = some h := fun e => (hv1 h e).2 rfl
  have hne2 : ¬ (Value.slice PA l.length pc).ownBlock = some w.heap.size := fun e => by have := h3 _ (hv1 _ e).1; omega
  have hne1 : ¬ (Value.slice PA l.length pc).ownBlock = some (w.heap.size + 1) := fun e => by have := h3 _ (hv1 _ e).1; omega
  have hS1 : Below W.heap.size W W.drew := (Below.refl _ _).drew
  have hS0 : Keep (fun g => (Value.slice PA l.length pc).ownBlock = some g) W W.drew := Keep.of_below hS1
  refine mix.region_D (fun w' => Keep (fun g => (Value.slice PA l.length pc).ownBlock = some g) W w') (fun j => decide (9 ≤ j)) (by kernel_rfl) ?_
  generalize W.drew = Wd at hS0 hS1 ⊢
  refine mix.D_take (i := 0) (v := ?_) rfl (by kernel_rfl) (by kernel_rfl) (fun _ _ _ h => h) (Or.inl ⟨by rfl, ?_⟩) hS0 ?_
  rotate_left
  · intro w' hSw
    have y0 := (hSw.cell (p := ⟨h, 0, none⟩) l8 hne0).trans y0
    have y1 := (hSw.cell (p := ⟨w.heap.size, 0, none⟩) l1 hne2).trans z0
    have y2 := (hSw.cell (p := ⟨w.heap.size, 1, none⟩) l1 hne2).trans z1
    have y3 := (hSw.cell (p := ⟨w.heap.size, 2, none⟩) l1 hne2).trans z2
    try simp only [List.getElem_toArray, List.getElem_cons_zero, List.getElem_cons_succ]
    go_simp
    exact rfl
  try simp only [Act.put, List.setIfInBounds_toArray, List.set_cons_zero, List.set_cons_succ, List.getElem_toArray, List.getElem_cons_zero, List.getElem_cons_succ]
  refine mix.D_take (i := 1) (v := ?_) rfl (by kernel_rfl) (by kernel_rfl) (fun _ _ _ h => h) (Or.inl ⟨by rfl, ?_⟩) hS0 ?_
  rotate_left
  · intro w' hSw
    have y0 := (hSw.cell (p := ⟨h, 0, none⟩) l8 hne0).trans y0
    have y1 := (hSw.cell (p := ⟨w.heap.size, 0, none⟩) l1 hne2).trans z0
    have y2 := (hSw.cell (p := ⟨w.heap.size, 1, none⟩) l1 hne2).trans z1
    have y3 := (hSw.cell (p := ⟨w.heap.size, 2, none⟩) l1 hne2).trans z2
    try simp only [List.getElem_toArray, List.getElem_cons_zero, List.getElem_cons_succ]
    go_simp
    exact rfl
  try simp only [Act.put, List.setIfInBounds_toArray, List.set_cons_zero, List.set_cons_succ, List.getElem_toArray, List.getElem_cons_zero, List.getElem_cons_succ]
  refine mix.D_take (i := 2) (v := ?_) rfl (by kernel_rfl) (by kernel_rfl) (fun _ _ _ h => h) (Or.inl ⟨by rfl, ?_⟩) hS0 ?_
  rotate_left
  · intro w' hSw
    have y0 := (hSw.cell (p := ⟨h, 0, none⟩) l8 hne0).trans y0
    have y1 := (hSw.cell (p := ⟨w.heap.size, 0, none⟩) l1 hne2).trans z0
    have y2 := (hSw.cell (p := ⟨w.heap.size, 1, none⟩) l1 hne2).trans z1
    have y3 := (hSw.cell (p := ⟨w.heap.size, 2, none⟩) l1 hne2).trans z2
    try simp only [List.getElem_toArray, List.getElem_cons_zero, List.getElem_cons_succ]
    go_simp
    exact rfl
  try simp only [Act.put, List.setIfInBounds_toArray, List.set_cons_zero, List.set_cons_succ, List.getElem_toArray, List.getElem_cons_zero, List.getElem_cons_succ]
  refine mix.D_take (i := 3) (v := ?_) rfl (by kernel_rfl) (by kernel_rfl) (fun _ _ _ h => h) (Or.inl ⟨by rfl, ?_⟩) hS0 ?_
  rotate_left
  · intro w' hSw
    have y0 := (hSw.cell (p := ⟨h, 0, none⟩) l8 hne0).trans y0
    have y1 := (hSw.cell (p := ⟨w.heap.size, 0, none⟩) l1 hne2).trans z0
    have y2 := (hSw.cell (p := ⟨w.heap.size, 1, none⟩) l1 hne2).trans z1
    have y3 := (hSw.cell (p := ⟨w.heap.size, 2, none⟩) l1 hne2).trans z2
    try simp only [List.getElem_toArray, List.getElem_cons_zero, List.getElem_cons_succ]
    go_simp
    exact rfl
  try simp only [Act.put, List.setIfInBounds_toArray, List.set_cons_zero, List.set_cons_succ, List.getElem_toArray, List.getElem_cons_zero, List.getElem_cons_succ]
  refine mix.D_take (i := 4) (v := ?_) rfl (by kernel_rfl) (by kernel_rfl) (fun _ _ _ h => h) (Or.inl ⟨by rfl, ?_⟩) hS0 ?_
  rotate_left
  · intro w' hSw
    have y0 := (hSw.cell (p := ⟨h, 0, none⟩) l8 hne0).trans y0
    have y1 := (hSw.cell (p := ⟨w.heap.size, 0, none⟩) l1 hne2).trans z0
    have y2 := (hSw.cell (p := ⟨w.heap.size, 1, none⟩) l1 hne2).trans z1
    have y3 := (hSw.cell (p := ⟨w.heap.size, 2, none⟩) l1 hne2).trans z2
    try simp only [List.getElem_toArray, List.getElem_cons_zero, List.getElem_cons_succ]
    go_simp
    exact rfl
  try simp only [Act.put, List.setIfInBounds_toArray, List.set_cons_zero, List.set_cons_succ, List.getElem_toArray, List.getElem_cons_zero, List.getElem_cons_succ]
  refine mix.D_take (i := 5) (v := ?_) rfl (by kernel_rfl) (by kernel_rfl) (fun _ _ _ h => h) (Or.inl ⟨by rfl, ?_⟩) hS0 ?_
  rotate_left
  · intro w' hSw
    have y0 := (hSw.cell (p := ⟨h, 0, none⟩) l8 hne0).trans y0
    have y1 := (hSw.cell (p := ⟨w.heap.size, 0, none⟩) l1 hne2).trans z0
    have y2 := (hSw.cell (p := ⟨w.heap.size, 1, none⟩) l1 hne2).trans z1
    have y3 := (hSw.cell (p := ⟨w.heap.size, 2, none⟩) l1 hne2).trans z2
    try simp only [List.getElem_toArray, List.getElem_cons_zero, List.getElem_cons_succ]
    go_simp
    exact rfl
  try simp only [Act.put, List.setIfInBounds_toArray, List.set_cons_zero, List.set_cons_succ, List.getElem_toArray, List.getElem_cons_zero, List.getElem_cons_succ]
  refine mix.D_op (k := 6) rfl rfl (by kernel_rfl) (fun K' hK => ?_)
  simp only [List.getElem_toArray, List.getElem_cons_zero, List.getElem_cons_succ]
  go_wp2_with fail
  have hb91 := bW.trans (hS1.mono bW.size)
  refine (copied_any lf es ks A c Q m _ ((hv.below hb91).more hb91.size) ((hk.below hb91).more hb91.size)).mono ?_
  rintro e wb1 ⟨⟨ylf, yes, yks, yA, yc, yQ, ym⟩, rfl, hy, hO1, hs1⟩
  have hbc : Below w.heap.size w wb1 := hb91.trans (hs1.mono hb91.size)
  have hOc := hO1.mono (G := fun g => w.heap.size + 2 ≤ g ∧ g < wb1.heap.size) fun g hg => ⟨by have h9 : Wd.heap.size ≤ g := hg.1; have h8 := hS0.size; omega, hg.2⟩
  have hb1 := hS0.seq hs1
  refine hK.out _ _ (fun _ => hb1) ?_
  clear hK K'
  try simp only [Act.put, List.setIfInBounds_toArray, List.set_cons_zero, List.set_cons_succ]
  refine mix.D_op (k := 7) rfl rfl (by kernel_rfl) (fun K' hK => ?_)
  simp only [List.getElem_toArray, List.getElem_cons_zero, List.getElem_cons_succ]
  go_wp2_with fail
  have hs2 : Below wb1.heap.size wb1 (wb1.alloc (.cells #[.bool ylf, .slice yA yes.length yc, .slice yQ yks.length ym] 60)) := (Below.refl _ _).alloc (Nat.le_refl _) _
  have hb2 := hb1.seq hs2
  refine hK.out _ _ (fun _ => hb2) ?_
  clear hK K'
  try simp only [Act.put, List.setIfInBounds_toArray, List.set_cons_zero, List.set_cons_succ]
  refine mix.D_op (k := 8) rfl rfl (by kernel_rfl) (fun K' hK => ?_)
  simp only [List.getElem_toArray, List.getElem_cons_zero, List.getElem_cons_succ]
  refine wp_put1 Try.underlying100 hi0 hz0 hz1 hz2 rfl (by decide) (.tmp 17) (.tmp 20) rfl (w := wb1) (v := .slice PA l.length pc) (n := l.length) (xs := cellsN l) (row_below ho hbc) rfl rfl (by intro u hu; simp at hu; rcases hu with rfl | rfl | rfl <;> rfl) rfl rfl (by omega) (by unfold maxLen; omega) ?_
  intro v9 wb3 ho9 hK9 hv9 hs3
  have hb3 : Keep (fun g => (Value.slice PA l.length pc).ownBlock = some g) W wb3 := hb1.trans hK9 (fun g hg _ => hg)
  obtain ⟨PA9, pc9, rfl, _, _, _⟩ := row_rdF ho9
  refine hK.out _ _ (fun _ => hb3) ?_
  clear hK K'
  try simp only [Act.put, List.setIfInBounds_toArray, List.set_cons_zero, List.set_cons_succ]
  refine mix.D_op (k := 9) rfl rfl (by kernel_rfl) (fun K' hK => ?_)
  simp only [List.getElem_toArray, List.getElem_cons_zero, List.getElem_cons_succ]
  go_wp2_with fail
  refine hK.out _ _ (fun h => by simp at h) ?_
  clear hK K'
  try simp only [Act.put, List.setIfInBounds_toArray, List.set_cons_zero, List.set_cons_succ]
  refine mix.D_op (k := 10) rfl rfl (by kernel_rfl) (fun K' hK => ?_)
  simp only [List.getElem_toArray, List.getElem_cons_zero, List.getElem_cons_succ]
  go_wp2_with fail
  refine hK.out _ _ (fun h => by simp at h) ?_
  clear hK K'
  try simp only [Act.put, List.setIfInBounds_toArray, List.set_cons_zero, List.set_cons_succ]
  refine mix.D_op (k := 11) rfl rfl (by kernel_rfl) (fun K' hK => ?_)
  simp only [List.getElem_toArray, List.getElem_cons_zero, List.getElem_cons_succ]
  have hput := Hp.put h2 h3 hb hv1 (by omega) hv2 hbc (w.heap.size + 2) ⟨by omega, by have := hs1.size; have := hS1.size; omega⟩ hOc hK9 ho9 hv9
  have kH := hK9.blk (Blk.below hb hbc hb.lt) hne0
  have z0' := kH.cell 0
  simp at z0'
  have g0 := kH.frozen 0
  have g1 := kH.lt
  have k9 := hK9.blk (k2.below (hS1.trans (hs1.mono hS1.size)) k2.lt) hne1
  go_wp2_with fail
  refine hK.out _ _ (fun h => by simp at h) ?_
  clear hK K'
  refine mix.D_done (by kernel_rfl) ?_ _
  obtain ⟨hH, hKp⟩ := hput
  have HY := vers.lay hy
  have hsz3 : wb3.heap.size = (wb3.setCell ⟨h, 0, none⟩ (.slice PA9 (l.length + 1) pc9)).heap.size := by simp
  have hsW := hb3.size
  have hH0 := hH
  have hneh : h ≠ w.heap.size + 1 := by omega
  have k5 : Blk (wb3.setCell ⟨h, 0, none⟩ (.slice PA9 (l.length + 1) pc9)) (w.heap.size + 1) 27 #[.int .u64 0, .int .i64 0, .int .i64 0, .int .i64 0] := (Below.heap_setCell _ _ _ _ (by simpa using fun e => hneh e.symm)).trans k9
  have y5 : (wb3.setCell ⟨h, 0, none⟩ (.slice PA9 (l.length + 1) pc9)).cell? ⟨h, 0, none⟩ = some (.slice PA9 (l.length + 1) pc9) := World.cell?_setCell_same' _ _ _ (by rw [z0']; rfl)
  have hnum := fun u => numbered_any l.length u (by omega)
  have e7 : IntKind.i64.wrap ((l.length : Int) + 1 - 1) = (l.length : Int) := by rw [show (l.length : Int) + 1 - 1 = (l.length : Int) by omega]; exact IntWalk.i64_in _ (by omega)
  generalize wb3.setCell ⟨h, 0, none⟩ (.slice PA9 (l.length + 1) pc9) = W6 at *
  have g6 : h < W6.heap.size := hH.lt h (.inl h2)
  go_wp2_with fail
  refine (hnum _).mono ?_
  rintro e w7 ⟨rfl, hb7⟩
  have k7 := k5.below hb7 k5.lt
  have f0 := k7.frozen 0
  have f1 := k7.frozen 1
  have f2 := k7.frozen 2
  have f3 := k7.frozen 3
  have c0 := k7.cell 0
  have c1 := k7.cell 1
  have c2 := k7.cell 2
  have c3 := k7.cell 3
  simp at c0 c1 c2 c3
  have l7 := k7.lt
  have hK7 := hKp.seq hb7
  have hH7 := hH.below hb7
  have s7 := hb7.size
  have hS6 := hH.lt
  have hHr := vers.lay (rfl : refOf l.length = refOf l.length)
  generalize hrr : refOf l.length = rr at hHr ⊢
  have hRR := vers.lay hrr
  clear hrr hHr hnum hH0 hK9 hv9 ho9 hH hKp hb7 hb1 hb2 hb3 hOc hO1 hy
  obtain ⟨rk, rg, ro, rn⟩ := rr
  go_wp2_with fail
  refine bodyPost_ret (v := .tuple #[(⟨rk, rg, ro, rn⟩ : R).val, .int .i64 0]) (by simp [results, Try.results149, go_sem, c0, c1, c2, c3]) rfl ?_
  have hy9 : (⟨ylf, yes, yks, yA, yc, yQ, ym⟩ : N).p = (lf, es.map pe, ks) := HY.out
  rw [hy9] at hH7
  refine ⟨four4_keep hK7 (by omega) _ _ _ _, ?_⟩
  rw [if_pos (by rw [List.length_map]; omega), List.length_map]
  refine ⟨by rw [hRR.out], ((hH7.four (g := w.heap.size + 1) (fun hg => ?_) _ _ _ _).mono (fun g hg => ?_) fun g hg => ?_)⟩
  · rcases hg with hg | hg
    · have := h3 _ hg; omega
    · omega
  · rcases hg with hg | hg
    · exact .inl hg
    · exact .inr ⟨by omega, by show g < (four4 w7 (w.heap.size + 1) (.int .u64 rk) (.int .i64 rg) (.int .i64 ro) (.int .i64 rn)).heap.size; rw [four4_size]; omega⟩
  · rcases hg with hg | hg
    · have := hS6 g (.inl hg); rw [four4_size]; omega
    · exact hg.2

theorem write_any (lf : Bool) (es : List E) (ks : List K) (A : Option Addr) (c : Nat) (Q : Option Addr) (m : Nat) (h : Nat) (S : Nat → Prop) (ns : List P3) (w : World) (hh : Hp w h S ns) (hv : Es w w.heap.size es A c) (hk : Ks w w.heap.size ks Q m) :
    Calls Try.prog 149 #[.pointer (some ⟨h, 0, none⟩), .agg #[.bool lf, .slice A es.length c, .slice Q ks.length m]] w (WPost w h S ns (lf, es.map pe, ks)) := by
  by_cases hn : ns.length < 20000
  · exact write_ok lf es ks A c Q m h S ns w hh hn hv hk
  · exact write_long lf es ks A c Q m h S ns w hh hn

end Go.Proofs.Ytmbhfibldklecaa.trees

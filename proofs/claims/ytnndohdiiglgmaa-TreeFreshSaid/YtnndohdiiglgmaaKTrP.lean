/- climber.page. -/
import Derived.Test.YtnndohdiiglgmaaKTrE
import Derived.Defers
import Derived.Recover


namespace Go.Proofs.Ytnndohdiiglgmaa.trees
set_option linter.unusedVariables false
set_option linter.unusedSimpArgs false
open Go.RowKit Go.Proofs.Ytnndohdiiglgmaa.base Go.Proofs.Ytnndohdiiglgmaa.vers Go.Proofs.Ytnndohdiiglgmaa.nodes Go.Proofs.Ytnndohdiiglgmaa.quotas

abbrev zN : Value := .agg #[.bool false, .slice none 0 0, .slice none 0 0]
/-- a climber over a heap -/
abbrev clim (h : Nat) : Value := .agg #[.iface 23 (.pointer (some ⟨h, 0, none⟩))]
/-- what a page that stands so deep is: the node, or an error -/
def pageE (ns : List P3) (r : R) (deep : Nat) : Except Int P3 :=
  if 8 < deep then .error 70 else match pageAt ns r with
    | none => .error 71
    | some x => if x.1 = false ∧ x.2.2 = [] then .error 70 else .ok x
def PPost (w : World) (a : Except Int P3) (e : Ending) (w' : World) : Prop := Below w.heap.size w w' ∧
  match a with
  | .ok x => ∃ y : N, e = .returned (.tuple #[y.val, .int .i64 0]) ∧ y.p = x ∧ OwnNF w' (fun g => w.heap.size ≤ g ∧ g < w'.heap.size) y
  | .error k => e = .returned (.tuple #[zN, .int .i64 k])

/-- a node's variable and an error's are set -/
def set4 (w : World) (g k : Nat) (a b c d : Value) : World := (((w.setCell ⟨g, 0, none⟩ a).setCell ⟨g, 1, none⟩ b).setCell ⟨g, 2, none⟩ c).setCell ⟨k, 0, none⟩ d
structure Two (w : World) (g k : Nat) (a b c d : Value) : Prop where
  x : Blk w g 60 #[a, b, c]
  y : Blk w k 28 #[d]
theorem Two.set {w : World} {g k : Nat} {a b c d : Value} (h : Two w g k a b c d) (hne : g ≠ k) (a' b' c' d' : Value) : Two (set4 w g k a' b' c' d') g k a' b' c' d' :=
  ⟨by unfold set4; have := (((h.x.put 0 a').put 1 b').put 2 c').far (p := ⟨k, 0, none⟩) hne d'; simpa using this,
   by unfold set4; have := (((h.y.far (p := ⟨g, 0, none⟩) hne.symm a').far (p := ⟨g, 1, none⟩) hne.symm b').far (p := ⟨g, 2, none⟩) hne.symm c').put 0 d'; simpa using this⟩
theorem set4_heap (w : World) (g k : Nat) (a b c d : Value) (j : Nat) (h : j ≠ g) (h' : j ≠ k) : (set4 w g k a b c d).heap[j]? = w.heap[j]? := by
  unfold set4
  rw [Below.heap_setCell _ _ _ _ (by simpa using h'), Below.heap_setCell _ _ _ _ (by simpa using h), Below.heap_setCell _ _ _ _ (by simpa using h), Below.heap_setCell _ _ _ _ (by simpa using h)]
theorem set4_size (w : World) (g k : Nat) (a b c d : Value) : (set4 w g k a b c d).heap.size = w.heap.size := by simp [set4]
theorem set4_below {B g k : Nat} {w w' : World} (h : Below B w w') (hg : B ≤ g) (hk : B ≤ k) (a b c d : Value) : Below B w (set4 w' g k a b c d) :=
  (((h.setCell (p := ⟨g, 0, none⟩) hg a).setCell (p := ⟨g, 1, none⟩) hg b).setCell (p := ⟨g, 2, none⟩) hg c).setCell (p := ⟨k, 0, none⟩) hk d

theorem catch_idle (p q : Value) (w : World) :
    CallsD Try.prog 103 #[p, q] .returning w fun e u' w' => e = .returned (.tuple #[]) ∧ u' = .returning ∧ w' = w := by
  refine callsD_of_wpS Try.func103 rfl fun c₀ cs hu => ?_
  apply wpS_seq
  apply wpS_region
  simp [wpOpsS, go_sem, recoverD, hu, Try.ntmps103, Exit.thenS]
  refine wpS_cond (t := false) (by simp [Act.eval, Array.replicate]) ?_
  simp only [Bool.false_eq_true, if_false]
  refine wpS_of_wp (wp_skip ?_)
  cases c₀
  simp_all [bodyPostS, results, Try.results103]

set_option maxRecDepth 100000 in
set_option maxHeartbeats 2000000 in
theorem page_any (r : R) (deep : Nat) (h : Nat) (S : Nat → Prop) (ns : List P3) (w : World) (hh : Hp w h S ns) (hr : r.fits) (hd : deep < 1000000) :
    Calls Try.prog 80 #[clim h, r.val, .int .i64 (deep : Int)] w (PPost w (pageE ns r deep)) := by
  have hmf : ∀ (fn : Fn) (first cap : Array Value) (w : World), (Instr.makeFunc fn first cap).run Try.prog w = .ok (.func fn first cap) w := fun _ _ _ _ => rfl
  obtain ⟨rk, rg, ro, rn⟩ := r
  by_cases h8 : 8 < deep
  · have d8 : decide ((8 : Int) < (deep : Int)) = true := decide_eq_true (by omega)
    go_enter_defers Try.func80, Try.ntmps80
    go_wp2_with fail
    refine ⟨.tuple #[zN, .int .i64 70], by simp [results, Try.results80, go_sem], ?_, ?_⟩
    · exact ((((Below.refl _ _).alloc (Nat.le_refl _) _).alloc (by simp) _).alloc (by simp; omega) _).alloc (by simp; omega) _
    · simp only [pageE, if_pos h8]
  · have d8 : decide ((8 : Int) < (deep : Int)) = false := decide_eq_false (by omega)
    have hm : ∀ (a : Addr) (w : World), (method 302 23 (.pointer (some a)) "Read").run Try.prog w = .ok (162, .pointer (some a)) w := fun _ _ => by kernel_rfl
    have b4 : Below w.heap.size w ((((w.alloc (.cells #[.iface 23 (.pointer (some ⟨h, 0, none⟩))] 111)).alloc (.cells #[.int .u64 (rk : Int), .int .i64 rg, .int .i64 ro, .int .i64 rn] 27)).alloc (.cells #[.bool false, .slice none 0 0, .slice none 0 0] 60)).alloc (.cells #[.int .i64 0] 28)) :=
      ((((Below.refl _ _).alloc (Nat.le_refl _) _).alloc (by simp) _).alloc (by simp; omega) _).alloc (by simp; omega) _
    have k6 := (Blk.new ((w.alloc (.cells #[.iface 23 (.pointer (some ⟨h, 0, none⟩))] 111)).alloc (.cells #[.int .u64 (rk : Int), .int .i64 rg, .int .i64 ro, .int .i64 rn] 27)) 60 #[.bool false, .slice none 0 0, .slice none 0 0]).alloc (.cells #[.int .i64 0] 28)
    have k7 := Blk.new (((w.alloc (.cells #[.iface 23 (.pointer (some ⟨h, 0, none⟩))] 111)).alloc (.cells #[.int .u64 (rk : Int), .int .i64 rg, .int .i64 ro, .int .i64 rn] 27)).alloc (.cells #[.bool false, .slice none 0 0, .slice none 0 0] 60)) 28 #[.int .i64 0]
    simp only [World.size_alloc] at k6 k7
    have hread := read_any ⟨rk, rg, ro, rn⟩ h S ns _ (hh.agree (fun g hg => b4.block g (hh.lt g hg)) b4.size) hr
    go_enter_defers Try.func80, Try.ntmps80
    go_wp2_with fail
    refine hread.mono ?_
    rintro e w1 ⟨hb1, hres⟩
    have b1 := b4.trans (hb1.mono b4.size)
    have hb1s := hb1.size
    simp only [World.size_alloc] at hb1s
    have k6 := k6.below hb1 k6.lt
    have k7 := k7.below hb1 k7.lt
    have h06 : w.heap.size ≤ w.heap.size + 1 + 1 := by omega
    have h07 : w.heap.size ≤ w.heap.size + 1 + 1 + 1 := by omega
    have hne : w.heap.size + 1 + 1 ≠ w.heap.size + 1 + 1 + 1 := by omega
    have hout : Hid (∀ y : N, OwnNF w1 (fun g => w.heap.size + 1 + 1 + 1 + 1 ≤ g ∧ g < w1.heap.size) y → OwnNF w1 (fun g => (w.heap.size ≤ g ∧ g < w1.heap.size) ∧ g ≠ w.heap.size + 1 + 1 ∧ g ≠ w.heap.size + 1 + 1 + 1) y) := lay (fun y hy => hy.mono fun g hg => ⟨⟨by omega, hg.2⟩, by omega, by omega⟩)
    clear hread b4 hb1
    cases hp : pageAt ns ⟨rk, rg, ro, rn⟩ with
    | none =>
      rw [hp] at hres
      simp only at hres
      subst hres
      generalize w.heap.size + 1 + 1 + 1 = g7 at *
      generalize w.heap.size + 1 + 1 = g6 at *
      have T1 : Two w1 g6 g7 (.bool false) (.slice none 0 0) (.slice none 0 0) (.int .i64 0) := ⟨k6, k7⟩
      have A1 : ∀ j, j ≠ g6 → j ≠ g7 → w1.heap[j]? = w1.heap[j]? := fun _ _ _ => rfl
      have Z1 : w1.heap.size = w1.heap.size := rfl
      have c0 := T1.x.cell 0
      have c1 := T1.x.cell 1
      have c2 := T1.x.cell 2
      have c3 := T1.y.cell 0
      have z0 := T1.x.frozen 0
      have z1 := T1.x.frozen 1
      have z2 := T1.x.frozen 2
      have z3 := T1.y.frozen 0
      simp at c0 c1 c2 c3
      have T2 := T1.set hne (.bool false) (.slice none 0 0) (.slice none 0 0) (.int .i64 71)
      have b2 := set4_below b1 (g := g6) (k := g7) h06 h07 (.bool false) (.slice none 0 0) (.slice none 0 0) (.int .i64 71)
      have A2 := fun j h h' => (set4_heap w1 g6 g7 (.bool false) (.slice none 0 0) (.slice none 0 0) (.int .i64 71) j h h').trans (A1 j h h')
      have Z2 := (set4_size w1 g6 g7 (.bool false) (.slice none 0 0) (.slice none 0 0) (.int .i64 71)).trans Z1
      go_upto_region 5 with (fail)
      unfold set4 at T2 b2 A2 Z2
      clear c0 c1 c2 c3 z0 z1 z2 z3
      generalize (((((w1).setCell ⟨g6, 0, none⟩ (.bool false)).setCell ⟨g6, 1, none⟩ (.slice none 0 0)).setCell ⟨g6, 2, none⟩ (.slice none 0 0)).setCell ⟨g7, 0, none⟩ (.int .i64 71)) = w2 at T2 b2 A2 Z2 ⊢
      have c0 := T2.x.cell 0
      have c1 := T2.x.cell 1
      have c2 := T2.x.cell 2
      have c3 := T2.y.cell 0
      have z0 := T2.x.frozen 0
      have z1 := T2.x.frozen 1
      have z2 := T2.x.frozen 2
      have z3 := T2.y.frozen 0
      simp at c0 c1 c2 c3
      have T3 := T2.set hne (.bool false) (.slice none 0 0) (.slice none 0 0) (.int .i64 71)
      have b3 := set4_below b2 (g := g6) (k := g7) h06 h07 (.bool false) (.slice none 0 0) (.slice none 0 0) (.int .i64 71)
      have A3 := fun j h h' => (set4_heap w2 g6 g7 (.bool false) (.slice none 0 0) (.slice none 0 0) (.int .i64 71) j h h').trans (A2 j h h')
      have Z3 := (set4_size w2 g6 g7 (.bool false) (.slice none 0 0) (.slice none 0 0) (.int .i64 71)).trans Z2
      go_wp2_with fail
      have gl7 := T2.y.lt
      have gl6 := T2.x.lt
      clear c0 c1 c2 z0 z1 z2 z3 T3 b3 A3 Z3 hout
      refine Code.wp_mono (Q := fun e a w => e = Exit.normal ∧ _) (fun e a w h => h.2) ?_
      have hS1 : Below w2.heap.size w2 w2.drew := (Below.refl _ _).drew
      have hS0 : Keep (fun g => g = g6) w2 w2.drew := Keep.of_below hS1
      refine mix.region_D (fun w' => Keep (fun g => g = g6) w2 w') (fun j => j == 3) (by kernel_rfl) ?_
      generalize w2.drew = w2d at hS0 hS1 ⊢
      refine mix.D_take (i := 0) (v := ?_) rfl (by kernel_rfl) (by kernel_rfl) (fun _ _ _ h => by cases h.1) (Or.inl ⟨by rfl, ?_⟩) hS0 ?_
      rotate_left
      · intro w' hSw
        have y0 := (hSw.cell (p := ⟨g7, 0, none⟩) gl7 hne.symm).trans c3
        try simp only [List.getElem_toArray, List.getElem_cons_zero, List.getElem_cons_succ]
        go_simp
        exact rfl
      try simp only [Act.put, List.setIfInBounds_toArray, List.set_cons_zero, List.set_cons_succ, List.getElem_toArray, List.getElem_cons_zero, List.getElem_cons_succ]
      refine mix.D_take (i := 1) (v := ?_) rfl (by kernel_rfl) (by kernel_rfl) (fun _ _ _ h => by cases h.1) (Or.inl ⟨by rfl, ?_⟩) hS0 ?_
      rotate_left
      · intro w' hSw
        have y0 := (hSw.cell (p := ⟨g7, 0, none⟩) gl7 hne.symm).trans c3
        try simp only [List.getElem_toArray, List.getElem_cons_zero, List.getElem_cons_succ]
        go_simp
        exact rfl
      try simp only [Act.put, List.setIfInBounds_toArray, List.set_cons_zero, List.set_cons_succ, List.getElem_toArray, List.getElem_cons_zero, List.getElem_cons_succ]
      refine mix.D_op (k := 2) rfl rfl (by kernel_rfl) (fun K' hK => ?_)
      simp only [List.getElem_toArray, List.getElem_cons_zero, List.getElem_cons_succ]
      have kx := T2.x.below hS1 gl6
      have ky := T2.y.below hS1 gl7
      have c0 := kx.cell 0
      have c1 := kx.cell 1
      have c2 := kx.cell 2
      have z0 := kx.frozen 0
      have z1 := kx.frozen 1
      have z2 := kx.frozen 2
      simp at c0 c1 c2
      go_wp2_with fail
      have hb1 : Keep (fun g => g = g6) w2 (((w2d.setCell ⟨g6, 0, none⟩ (.bool false)).setCell ⟨g6, 1, none⟩ (.slice none 0 0)).setCell ⟨g6, 2, none⟩ (.slice none 0 0)) := ⟨hS1.os, hS1.tape, hS1.output, by simpa using hS1.size, fun k hk hn => by
        rw [Below.heap_setCell _ _ _ _ (by simpa using hn), Below.heap_setCell _ _ _ _ (by simpa using hn), Below.heap_setCell _ _ _ _ (by simpa using hn)]; exact hS1.block k hk⟩
      have hs1 := hb1.size
      have kx9 := ((kx.put 0 (.bool false)).put 1 (.slice none 0 0)).put 2 (.slice none 0 0)
      have ky9 := hb1.blk T2.y hne.symm
      simp at kx9
      clear c0 c1 c2 z0 z1 z2 kx ky hS1
      generalize ((w2d.setCell ⟨g6, 0, none⟩ (.bool false)).setCell ⟨g6, 1, none⟩ (.slice none 0 0)).setCell ⟨g6, 2, none⟩ (.slice none 0 0) = wb1 at hb1 hs1 kx9 ky9 ⊢
      refine hK.out _ _ (fun _ => hb1) ?_
      clear hK K'
      try simp only [Act.put, List.setIfInBounds_toArray, List.set_cons_zero, List.set_cons_succ]
      refine mix.D_op (k := 3) rfl rfl (by kernel_rfl) (fun K' hK => ?_)
      simp only [List.getElem_toArray, List.getElem_cons_zero, List.getElem_cons_succ]
      have c3 := ky9.cell 0
      have z3 := ky9.frozen 0
      simp at c3
      go_wp2_with fail
      refine hK.out _ _ (fun h => by simp at h) ?_
      clear hK K'
      refine mix.D_done (by kernel_rfl) ⟨rfl, ?_⟩ _
      have b3 : Below w.heap.size w (wb1.setCell ⟨g7, 0, none⟩ (.int .i64 71)) := (b2.trans (hb1.below (fun g hg => by omega) (by have := b2.size; omega))).setCell (p := ⟨g7, 0, none⟩) h07 _
      have c0 := (kx9.far (p := ⟨g7, 0, none⟩) hne (.int .i64 71)).cell 0
      have c1 := (kx9.far (p := ⟨g7, 0, none⟩) hne (.int .i64 71)).cell 1
      have c2 := (kx9.far (p := ⟨g7, 0, none⟩) hne (.int .i64 71)).cell 2
      have c3 := (ky9.put 0 (.int .i64 71)).cell 0
      simp at c0 c1 c2 c3
      go_wp2_with fail
      generalize wb1.setCell ⟨g7, 0, none⟩ (.int .i64 71) = w3 at *
      refine leaves_cons (f := 103) (args := #[.pointer (some ⟨g6, 0, none⟩), .pointer (some ⟨g7, 0, none⟩)]) (by simp) (by simp [go_sem]) ?_
      refine (catch_idle _ _ _).mono ?_
      rintro e u' w'' ⟨rfl, rfl, rfl⟩
      refine ⟨.tuple #[zN, .int .i64 71], by simp [results, Try.results80, go_sem, c0, c1, c2, c3], b3, ?_⟩
      rw [pageE, if_neg h8, hp]
    | some x =>
      rw [hp] at hres
      obtain ⟨⟨ylf, yes, yks, yA, yc, yQ, ym⟩, rfl, hy, hyO⟩ := hres
      simp only [World.size_alloc] at hyO
      have hyO := hout.out _ hyO
      generalize w.heap.size + 1 + 1 + 1 = g7 at *
      generalize w.heap.size + 1 + 1 = g6 at *
      have T1 : Two w1 g6 g7 (.bool false) (.slice none 0 0) (.slice none 0 0) (.int .i64 0) := ⟨k6, k7⟩
      have A1 : ∀ j, j ≠ g6 → j ≠ g7 → w1.heap[j]? = w1.heap[j]? := fun _ _ _ => rfl
      have Z1 : w1.heap.size = w1.heap.size := rfl
      have c0 := T1.x.cell 0
      have c1 := T1.x.cell 1
      have c2 := T1.x.cell 2
      have c3 := T1.y.cell 0
      have z0 := T1.x.frozen 0
      have z1 := T1.x.frozen 1
      have z2 := T1.x.frozen 2
      have z3 := T1.y.frozen 0
      simp at c0 c1 c2 c3
      have T2 := T1.set hne (.bool ylf) (.slice yA yes.length yc) (.slice yQ yks.length ym) (.int .i64 0)
      have b2 := set4_below b1 (g := g6) (k := g7) h06 h07 (.bool ylf) (.slice yA yes.length yc) (.slice yQ yks.length ym) (.int .i64 0)
      have A2 := fun j h h' => (set4_heap w1 g6 g7 (.bool ylf) (.slice yA yes.length yc) (.slice yQ yks.length ym) (.int .i64 0) j h h').trans (A1 j h h')
      have Z2 := (set4_size w1 g6 g7 (.bool ylf) (.slice yA yes.length yc) (.slice yQ yks.length ym) (.int .i64 0)).trans Z1
      go_upto_region 5 with (fail)
      unfold set4 at T2 b2 A2 Z2
      clear c0 c1 c2 c3 z0 z1 z2 z3
      generalize (((((w1).setCell ⟨g6, 0, none⟩ (.bool ylf)).setCell ⟨g6, 1, none⟩ (.slice yA yes.length yc)).setCell ⟨g6, 2, none⟩ (.slice yQ yks.length ym)).setCell ⟨g7, 0, none⟩ (.int .i64 0)) = w2 at T2 b2 A2 Z2 ⊢
      have c0 := T2.x.cell 0
      have c1 := T2.x.cell 1
      have c2 := T2.x.cell 2
      have c3 := T2.y.cell 0
      have z0 := T2.x.frozen 0
      have z1 := T2.x.frozen 1
      have z2 := T2.x.frozen 2
      have z3 := T2.y.frozen 0
      simp at c0 c1 c2 c3
      by_cases hq : ylf = false ∧ yks = []
      · obtain ⟨rfl, rfl⟩ := hq
        have T3 := T2.set hne (.bool false) (.slice none 0 0) (.slice none 0 0) (.int .i64 70)
        have b3 := set4_below b2 (g := g6) (k := g7) h06 h07 (.bool false) (.slice none 0 0) (.slice none 0 0) (.int .i64 70)
        have A3 := fun j h h' => (set4_heap w2 g6 g7 (.bool false) (.slice none 0 0) (.slice none 0 0) (.int .i64 70) j h h').trans (A2 j h h')
        have Z3 := (set4_size w2 g6 g7 (.bool false) (.slice none 0 0) (.slice none 0 0) (.int .i64 70)).trans Z2
        have hpe : pageE ns ⟨rk, rg, ro, rn⟩ deep = .error 70 := by
          rw [pageE, if_neg h8, hp]
          simp only
          rw [if_pos (by rw [← hy]; exact ⟨rfl, rfl⟩)]
        have hpe := vers.lay hpe
        clear hy
        go_wp2_with fail
        unfold set4 at T3 b3 A3 Z3
        clear c0 c1 c2 c3 z0 z1 z2 z3
        generalize (((((w2).setCell ⟨g6, 0, none⟩ (.bool false)).setCell ⟨g6, 1, none⟩ (.slice none 0 0)).setCell ⟨g6, 2, none⟩ (.slice none 0 0)).setCell ⟨g7, 0, none⟩ (.int .i64 70)) = w3 at T3 b3 A3 Z3 ⊢
        have c0 := T3.x.cell 0
        have c1 := T3.x.cell 1
        have c2 := T3.x.cell 2
        have c3 := T3.y.cell 0
        have z0 := T3.x.frozen 0
        have z1 := T3.x.frozen 1
        have z2 := T3.x.frozen 2
        have z3 := T3.y.frozen 0
        simp at c0 c1 c2 c3
        refine leaves_cons (f := 103) (args := #[.pointer (some ⟨g6, 0, none⟩), .pointer (some ⟨g7, 0, none⟩)]) (by simp) (by simp [go_sem]) ?_
        refine (catch_idle _ _ _).mono ?_
        rintro e u' w'' ⟨rfl, rfl, rfl⟩
        refine ⟨.tuple #[zN, .int .i64 70], by simp [results, Try.results80, go_sem, c0, c1, c2, c3], b3, ?_⟩
        rw [hpe.out]
      · have hpe : pageE ns ⟨rk, rg, ro, rn⟩ deep = .ok x := by
          rw [pageE, if_neg h8, hp]
          simp only
          rw [if_neg (by rw [← hy]; exact hq)]
        have hy3 := hyO.agree (fun g hg => A2 g hg.2.1 hg.2.2)
        have hcop := copied_any ylf yes yks yA yc yQ ym w2 (hy3.ns.1.es) (hy3.ns.2.ks)
        have hqq : (ylf = true ∨ ((yks.length : Int) == 0) = false) := by
          cases ylf with
          | true => exact .inl rfl
          | false => exact .inr (beq_eq_false_iff_ne.2 (by have : yks ≠ [] := fun e => hq ⟨rfl, e⟩; have := List.length_pos_iff.2 this; omega))
        have HY := lay hy
        have hpe := vers.lay hpe
        clear hq hy
        cases ylf with
        | true =>
          go_wp2_with fail
          refine hcop.mono ?_
          rintro e w3 ⟨⟨zlf, zes, zks, zA, zc, zQ, zm⟩, rfl, hz, hzO, hb3⟩
          have g6l := T2.x.lt
          have g7l := T2.y.lt
          have T3 : Two w3 g6 g7 (.bool true) (.slice yA yes.length yc) (.slice yQ yks.length ym) (.int .i64 0) := ⟨T2.x.below hb3 g6l, T2.y.below hb3 g7l⟩
          have b3 := b2.trans (hb3.mono b2.size)
          have A3 : ∀ j, j ≠ g6 → j ≠ g7 → w3.heap[j]? = w3.heap[j]? := fun _ _ _ => rfl
          have Z3 : w3.heap.size = w3.heap.size := rfl
          have bs2 := b2.size
          clear c0 c1 c2 c3 z0 z1 z2 z3 hcop
          have c0 := T3.x.cell 0
          have c1 := T3.x.cell 1
          have c2 := T3.x.cell 2
          have c3 := T3.y.cell 0
          have z0 := T3.x.frozen 0
          have z1 := T3.x.frozen 1
          have z2 := T3.x.frozen 2
          have z3 := T3.y.frozen 0
          simp at c0 c1 c2 c3
          have T4 := T3.set hne (.bool zlf) (.slice zA zes.length zc) (.slice zQ zks.length zm) (.int .i64 0)
          have b4 := set4_below b3 (g := g6) (k := g7) h06 h07 (.bool zlf) (.slice zA zes.length zc) (.slice zQ zks.length zm) (.int .i64 0)
          have A4 := fun j h h' => (set4_heap w3 g6 g7 (.bool zlf) (.slice zA zes.length zc) (.slice zQ zks.length zm) (.int .i64 0) j h h').trans (A3 j h h')
          have Z4 := (set4_size w3 g6 g7 (.bool zlf) (.slice zA zes.length zc) (.slice zQ zks.length zm) (.int .i64 0)).trans Z3
          have HZ := vers.lay hz
          clear hz
          go_wp2_with fail
          unfold set4 at T4 b4 A4 Z4
          clear c0 c1 c2 c3 z0 z1 z2 z3
          generalize (((((w3).setCell ⟨g6, 0, none⟩ (.bool zlf)).setCell ⟨g6, 1, none⟩ (.slice zA zes.length zc)).setCell ⟨g6, 2, none⟩ (.slice zQ zks.length zm)).setCell ⟨g7, 0, none⟩ (.int .i64 0)) = w4 at T4 b4 A4 Z4 ⊢
          have c0 := T4.x.cell 0
          have c1 := T4.x.cell 1
          have c2 := T4.x.cell 2
          have c3 := T4.y.cell 0
          have z0 := T4.x.frozen 0
          have z1 := T4.x.frozen 1
          have z2 := T4.x.frozen 2
          have z3 := T4.y.frozen 0
          simp at c0 c1 c2 c3
          refine leaves_cons (f := 103) (args := #[.pointer (some ⟨g6, 0, none⟩), .pointer (some ⟨g7, 0, none⟩)]) (by simp) (by simp [go_sem]) ?_
          refine (catch_idle _ _ _).mono ?_
          rintro e u' w'' ⟨rfl, rfl, rfl⟩
          refine ⟨.tuple #[(⟨zlf, zes, zks, zA, zc, zQ, zm⟩ : N).val, .int .i64 0], by simp [results, Try.results80, go_sem, c0, c1, c2, c3], b4, ?_⟩
          rw [hpe.out]
          exact ⟨_, rfl, HZ.out.trans HY.out, (hzO.agree (fun g hg => A4 g (by omega) (by omega))).mono fun g hg => ⟨by omega, by omega⟩⟩
        | false =>
          have hq1 : ((yks.length : Int) == 0) = false := by simpa using hqq
          go_wp2_with fail
          refine hcop.mono ?_
          rintro e w3 ⟨⟨zlf, zes, zks, zA, zc, zQ, zm⟩, rfl, hz, hzO, hb3⟩
          have g6l := T2.x.lt
          have g7l := T2.y.lt
          have T3 : Two w3 g6 g7 (.bool false) (.slice yA yes.length yc) (.slice yQ yks.length ym) (.int .i64 0) := ⟨T2.x.below hb3 g6l, T2.y.below hb3 g7l⟩
          have b3 := b2.trans (hb3.mono b2.size)
          have A3 : ∀ j, j ≠ g6 → j ≠ g7 → w3.heap[j]? = w3.heap[j]? := fun _ _ _ => rfl
          have Z3 : w3.heap.size = w3.heap.size := rfl
          have bs2 := b2.size
          clear c0 c1 c2 c3 z0 z1 z2 z3 hcop
          have c0 := T3.x.cell 0
          have c1 := T3.x.cell 1
          have c2 := T3.x.cell 2
          have c3 := T3.y.cell 0
          have z0 := T3.x.frozen 0
          have z1 := T3.x.frozen 1
          have z2 := T3.x.frozen 2
          have z3 := T3.y.frozen 0
          simp at c0 c1 c2 c3
          have T4 := T3.set hne (.bool zlf) (.slice zA zes.length zc) (.slice zQ zks.length zm) (.int .i64 0)
          have b4 := set4_below b3 (g := g6) (k := g7) h06 h07 (.bool zlf) (.slice zA zes.length zc) (.slice zQ zks.length zm) (.int .i64 0)
          have A4 := fun j h h' => (set4_heap w3 g6 g7 (.bool zlf) (.slice zA zes.length zc) (.slice zQ zks.length zm) (.int .i64 0) j h h').trans (A3 j h h')
          have Z4 := (set4_size w3 g6 g7 (.bool zlf) (.slice zA zes.length zc) (.slice zQ zks.length zm) (.int .i64 0)).trans Z3
          have HZ := vers.lay hz
          clear hz
          go_wp2_with fail
          unfold set4 at T4 b4 A4 Z4
          clear c0 c1 c2 c3 z0 z1 z2 z3
          generalize (((((w3).setCell ⟨g6, 0, none⟩ (.bool zlf)).setCell ⟨g6, 1, none⟩ (.slice zA zes.length zc)).setCell ⟨g6, 2, none⟩ (.slice zQ zks.length zm)).setCell ⟨g7, 0, none⟩ (.int .i64 0)) = w4 at T4 b4 A4 Z4 ⊢
          have c0 := T4.x.cell 0
          have c1 := T4.x.cell 1
          have c2 := T4.x.cell 2
          have c3 := T4.y.cell 0
          have z0 := T4.x.frozen 0
          have z1 := T4.x.frozen 1
          have z2 := T4.x.frozen 2
          have z3 := T4.y.frozen 0
          simp at c0 c1 c2 c3
          refine leaves_cons (f := 103) (args := #[.pointer (some ⟨g6, 0, none⟩), .pointer (some ⟨g7, 0, none⟩)]) (by simp) (by simp [go_sem]) ?_
          refine (catch_idle _ _ _).mono ?_
          rintro e u' w'' ⟨rfl, rfl, rfl⟩
          refine ⟨.tuple #[(⟨zlf, zes, zks, zA, zc, zQ, zm⟩ : N).val, .int .i64 0], by simp [results, Try.results80, go_sem, c0, c1, c2, c3], b4, ?_⟩
          rw [hpe.out]
          exact ⟨_, rfl, HZ.out.trans HY.out, (hzO.agree (fun g hg => A4 g (by omega) (by omega))).mono fun g hg => ⟨by omega, by omega⟩⟩

end Go.Proofs.Ytnndohdiiglgmaa.trees

/- climber.all at what can't be read. -/

namespace Go.Proofs.Ytnndohdiiglgmaa.trees
set_option linter.unusedVariables false
set_option linter.unusedSimpArgs false
open Go.RowKit Go.Proofs.Ytnndohdiiglgmaa.base Go.Proofs.Ytnndohdiiglgmaa.vers Go.Proofs.Ytnndohdiiglgmaa.nodes Go.Proofs.Ytnndohdiiglgmaa.quotas

abbrev _root_.Go.Proofs.Ytnndohdiiglgmaa.nodes.K.r (k : K) : R := ⟨k.k, k.g, k.o, k.n⟩
/-- nodes of one kid each, down to an error -/
inductive Bad (ns : List P3) : R → Nat → Int → Prop where
  | page {r : R} {d : Nat} {k : Int} : pageE ns r d = .error k → Bad ns r d k
  | step {r : R} {d : Nat} {k : Int} {es : List (ByteArray × List V)} {x : K} : pageE ns r d = .ok (false, es, [x]) → Bad ns x.r (d + 1) k → Bad ns r d k
theorem pageE_err {ns : List P3} {r : R} {d : Nat} {k : Int} (h : pageE ns r d = .error k) : k = 70 ∨ k = 71 := by
  unfold pageE at h
  split at h
  · cases h; exact .inl rfl
  · split at h
    · cases h; exact .inr rfl
    · split at h
      · cases h; exact .inl rfl
      · cases h
theorem Bad.err {ns : List P3} {r : R} {d : Nat} {k : Int} (h : Bad ns r d k) : k = 70 ∨ k = 71 := by
  induction h with
  | page h => exact pageE_err h
  | step _ _ ih => exact ih
theorem pageE_le {ns : List P3} {r : R} {d : Nat} {x : P3} (h : pageE ns r d = .ok x) : d ≤ 8 := by
  unfold pageE at h
  split at h
  · cases h
  · omega

set_option maxRecDepth 100000 in
set_option maxHeartbeats 2000000 in
theorem below_any (lf : Bool) (es : List E) (ks : List K) (A : Option Addr) (c : Nat) (Q : Option Addr) (m : Nat) (w : World) :
    Calls Try.prog 91 #[.agg #[.bool lf, .slice A es.length c, .slice Q ks.length m]] w fun e w' => e = .returned (if lf then .slice none 0 0 else .slice Q ks.length m) ∧ Below w.heap.size w w' := by
  have hb : Below w.heap.size w (w.alloc (.cells #[.bool lf, .slice A es.length c, .slice Q ks.length m] 60)) := (Below.refl _ _).alloc (Nat.le_refl _) _
  cases lf with
  | true =>
    go_enter Try.func91, Try.ntmps91
    go_wp2_with fail
    go_ret
    exact ⟨rfl, hb⟩
  | false =>
    go_enter Try.func91, Try.ntmps91
    go_wp2_with fail
    go_ret
    exact ⟨rfl, hb⟩

set_option maxRecDepth 100000 in
set_option maxHeartbeats 2000000 in
theorem all_bad (h : Nat) (S : Nat → Prop) (ns : List P3) (r : R) (d : Nat) (k : Int) (hB : Bad ns r d k) : ∀ (w : World), Hp w h S ns → r.fits → d < 100 →
    Calls Try.prog 53 #[clim h, r.val, .int .i64 (d : Int)] w fun e w' => e = .returned (.tuple #[.slice none 0 0, .int .i64 k]) ∧ Below w.heap.size w w' := by
  induction hB with
  | @page r d k hE =>
    intro w hh hr hd
    have hp := fun w' (hb : Below w.heap.size w w') => page_any r d h S ns w' (hh.agree (fun g hg => hb.block g (hh.lt g hg)) hb.size) hr (by omega)
    rw [hE] at hp
    have hk : (k == 0) = false := by rcases pageE_err hE with rfl | rfl <;> rfl
    obtain ⟨rk, rg, ro, rn⟩ := r
    have b2 : Below w.heap.size w ((w.alloc (.cells #[.iface 23 (.pointer (some ⟨h, 0, none⟩))] 111)).alloc (.cells #[.int .u64 (rk : Int), .int .i64 rg, .int .i64 ro, .int .i64 rn] 27)) := ((Below.refl _ _).alloc (Nat.le_refl _) _).alloc (by simp) _
    go_enter Try.func53, Try.ntmps53
    go_wp2_with fail
    refine (hp _ b2).mono ?_
    rintro e w1 ⟨hb1, rfl⟩
    go_wp2_with fail
    refine bodyPost_ret (v := .tuple #[.slice none 0 0, .int .i64 k]) (by simp [results, Try.results53, go_sem]) rfl ?_
    exact ⟨rfl, (b2.trans (hb1.mono b2.size)).alloc (Nat.le_trans b2.size hb1.size) _⟩
  | @step r d k es x hE hB ih =>
    intro w hh hr hd
    have hd8 := pageE_le hE
    have hp := fun w' (hb : Below w.heap.size w w') => page_any r d h S ns w' (hh.agree (fun g hg => hb.block g (hh.lt g hg)) hb.size) hr (by omega)
    rw [hE] at hp
    have hk : (k == 0) = false := by rcases hB.err with rfl | rfl <;> rfl
    obtain ⟨rk, rg, ro, rn⟩ := r
    have b2 : Below w.heap.size w ((w.alloc (.cells #[.iface 23 (.pointer (some ⟨h, 0, none⟩))] 111)).alloc (.cells #[.int .u64 (rk : Int), .int .i64 rg, .int .i64 ro, .int .i64 rn] 27)) := ((Below.refl _ _).alloc (Nat.le_refl _) _).alloc (by simp) _
    go_enter Try.func53, Try.ntmps53
    go_wp2_with fail
    refine (hp _ b2).mono ?_
    rintro e w1 ⟨hb1, ⟨ylf, yes, yks, yA, yc, yQ, ym⟩, rfl, hy, hyO⟩
    simp only [N.p, Prod.mk.injEq] at hy
    obtain ⟨rfl, hes, rfl⟩ := hy
    have b1 := b2.trans (hb1.mono b2.size)
    have s1 := hb1.size
    simp only [World.size_alloc] at s1
    have yk := hyO.2.1.ks
    obtain ⟨_, _, e1, yk⟩ := yk
    injection e1 with e1 _ e2
    subst e1 e2
    have yk := yk.ks
    have xf := yk.2.2.2.2 x List.mem_cons_self
    have k0 := (((Blk.new w 111 #[.iface 23 (.pointer (some ⟨h, 0, none⟩))]).alloc (.cells #[.int .u64 (rk : Int), .int .i64 rg, .int .i64 ro, .int .i64 rn] 27)).below hb1 (by simp; omega))
    have k1 := (Blk.new (w.alloc (.cells #[.iface 23 (.pointer (some ⟨h, 0, none⟩))] 111)) 27 #[.int .u64 (rk : Int), .int .i64 rg, .int .i64 ro, .int .i64 rn]).below hb1 (by simp)
    simp only [World.size_alloc] at k1
    have c0 := k0.cell 0
    have r0 := k1.cell 0
    have r1 := k1.cell 1
    have r2 := k1.cell 2
    have r3 := k1.cell 3
    simp at c0 r0 r1 r2 r3
    have l0 := k0.lt
    have l1 := k1.lt
    clear b2 hp hE hB hes
    have b3 : Below w1.heap.size w1 ((w1.alloc (.cells #[.bool false, .slice yA yes.length yc, .slice yQ [x].length ym] 60)).alloc (.cells #[.int .i64 (d : Int), .int .u64 (rk : Int), .int .i64 rg, .int .i64 ro, .int .i64 rn, .bool false, .slice yA yes.length yc, .slice yQ [x].length ym] 62)) := ((Below.refl _ _).alloc (Nat.le_refl _) _).alloc (by simp) _
    rw [show [x].length = 1 from rfl] at b3
    go_wp2_with fail
    refine (below_any false yes [x] yA yc yQ ym _).mono ?_
    rintro e w2 ⟨rfl, hb2⟩
    have b12 : Below w1.heap.size w1 w2 := b3.trans (hb2.mono b3.size)
    have bw2 := b1.trans (b12.mono b1.size)
    have c0 := (b12.cell (p := ⟨w.heap.size, 0, none⟩) l0).trans c0
    have hh2 := hh.agree (fun g hg => bw2.block g (hh.lt g hg)) bw2.size
    obtain ⟨bk, off, rfl, hbk, e0, e1, e2, e3, e4⟩ := (yk.below b12).at_ (j := 0) (by simp)
    simp only [List.getElem_cons_zero, Nat.zero_mul, Nat.add_zero] at e0 e1 e2 e3 e4
    have l2 : w.heap.size < w2.heap.size := Nat.lt_of_lt_of_le l0 b12.size
    have hk2 : (k != 0) = true := by simp [bne, hk]
    clear b3 hb2 r0 r1 r2 r3 k0 k1 hb1 yk hyO
    go_wp2_with fail
    go_loopw [33] (fun i wr => i = .int .i64 0 ∧ wr = w2) (fun _ _ => 0)
    case atStart => exact ⟨rfl, rfl⟩
    case round =>
      obtain ⟨rfl, rfl⟩ := hrel
      have b4 : Below wr.heap.size wr (wr.alloc (.cells #[.string x.s, .int .u64 (x.k : Int), .int .i64 x.g, .int .i64 x.o, .int .i64 x.n] 66)) := (Below.refl _ _).alloc (Nat.le_refl _) _
      have hih := ih _ (hh2.below b4) ⟨xf.2.1, xf.2.2.1, xf.2.2.2.1, xf.2.2.2.2⟩ (by omega)
      rw [show ((d + 1 : Nat) : Int) = (d : Int) + 1 from rfl] at hih
      have ed : IntKind.i64.wrap ((d : Int) + 1) = (d : Int) + 1 := IntWalk.i64_in _ (by omega)
      go_wp2_with fail
      refine hih.mono ?_
      rintro e w3 ⟨rfl, hb3⟩
      go_wp2_with fail
      refine bodyPost_ret (v := .tuple #[.slice none 0 0, .int .i64 k]) (by simp [results, Try.results53, go_sem]) rfl ?_
      have b5 := bw2.trans (b4.mono bw2.size)
      exact ⟨rfl, b5.trans (hb3.mono b5.size)⟩

end Go.Proofs.Ytnndohdiiglgmaa.trees

/- climber.page. -/
import Derived.Test.YtmbhfibldklecaaTrF
import Derived.Defers
import Derived.Recover


namespace Go.Proofs.Ytmbhfibldklecaa.trees
set_option linter.unusedVariables false
set_option linter.unusedSimpArgs false
open Go.RowKit Go.Proofs.Ytmbhfibldklecaa.base Go.Proofs.Ytmbhfibldklecaa.vers Go.Proofs.Ytmbhfibldklecaa.nodes Go.Proofs.Ytmbhfibldklecaa.quotas

abbrev zN : Value := .agg #[.bool false, .slice none 0 0, .slice none 0 0]
/-- a climber over a heap -/
abbrev clim (h : Nat) : Value := .agg #[.iface 23 (.pointer (some ⟨h, 0, none⟩))]
/-- what a page that stands so deep is: the node, or an error -/
def pageE (ns : List P3) (r : R) (deep : Nat) : Except Int P3 :=
  if 8 < deep then .error 70 else match pageAt ns r with
    | none => .error 71
    | some x => if x.1 = false ∧ x.2.2 = [] then .error 70 else .ok x
def PPost (w : World) (a : Except Int P3) (e : Ending) (w' : World) : Prop := Below w.heap.size w w' ∧
  match a with
  | .ok x => ∃ y : N, e = .returned (.tuple #[y.val, .int .i64 0]) ∧ y.p = x ∧ OwnNF w' (fun g => w.heap.size ≤ g ∧ g < w'.heap.size) y
  | .error k => e = .returned (.tuple #[zN, .int .i64 k])

/-- a node's variable and an error's are set -/
def set4 (w : World) (g k : Nat) (a b c d : Value) : World := (((w.setCell ⟨g, 0, none⟩ a).setCell ⟨g, 1, none⟩ b).setCell ⟨g, 2, none⟩ c).setCell ⟨k, 0, none⟩ d
structure Two (w : World) (g k : Nat) (a b c d : Value) : Prop where
  x : Blk w g 60 #[a, b, c]
  y : Blk w k 28 #[d]
theorem Two.set {w : World} {g k : Nat} {a b c d : Value} (h : Two w g k a b c d) (hne : g ≠ k) (a' b' c' d' : Value) : Two (set4 w g k a' b' c' d') g k a' b' c' d' :=
  ⟨by unfold set4; have := (((h.x.put 0 a').put 1 b').put 2 c').far (p := ⟨k, 0, none⟩) hne d'; simpa using this,
   by unfold set4; have := (((h.y.far (p := ⟨g, 0, none⟩) hne.symm a').far (p := ⟨g, 1, none⟩) hne.symm b').far (p := ⟨g, 2, none⟩) hne.symm c').put 0 d'; simpa using this⟩
theorem set4_heap (w : World) (g k : Nat) (a b c d : Value) (j : Nat) (h : j ≠ g) (h' : j ≠ k) : (set4 w g k a b c d).heap[j]? = w.heap[j]? := by
  unfold set4
  rw [Below.heap_setCell _ _ _ _ (by simpa using h'), Below.heap_setCell _ _ _ _ (by simpa using h), Below.heap_setCell _ _ _ _ (by simpa using h), Below.heap_setCell _ _ _ _ (by simpa using h)]
theorem set4_size (w : World) (g k : Nat) (a b c d : Value) : (set4 w g k a b c d).heap.size = w.heap.size := by simp [set4]
theorem set4_below {B g k : Nat} {w w' : World} (h : Below B w w') (hg : B ≤ g) (hk : B ≤ k) (a b c d : Value) : Below B w (set4 w' g k a b c d) :=
  (((h.setCell (p := ⟨g, 0, none⟩) hg a).setCell (p := ⟨g, 1, none⟩) hg b).setCell (p := ⟨g, 2, none⟩) hg c).setCell (p := ⟨k, 0, none⟩) hk d

theorem catch_idle (p q : Value) (w : World) :
    CallsD Try.prog 89 #[p, q] .returning w fun e u' w' => e = .returned (.tuple #[]) ∧ u' = .returning ∧ w' = w := by
  refine callsD_of_wpS Try.func89 rfl fun c₀ cs hu => ?_
  apply wpS_seq
  apply wpS_region
  simp [wpOpsS, go_sem, recoverD, hu, Try.ntmps89, Exit.thenS]
  refine wpS_cond (t := false) (by simp [Act.eval, Array.replicate]) ?_
  simp only [Bool.false_eq_true, if_false]
  refine wpS_of_wp (wp_skip ?_)
  cases c₀
  simp_all [bodyPostS, results, Try.results89]

set_option maxRecDepth 100000 in
set_option maxHeartbeats 2000000 in
theorem page_any (r : R) (deep : Nat) (h : Nat) (S : Nat → Prop) (ns : List P3) (w : World) (hh : Hp w h S ns) (hr : r.fits) (hd : deep < 1000000) :
    Calls Try.prog 66 #[clim h, r.val, .int .i64 (deep : Int)] w (PPost w (pageE ns r deep)) := by
  have hmf : ∀ (fn : Fn) (first cap : Array Value) (w : World), (Instr.makeFunc fn first cap).run Try.prog w = .ok (.func fn first cap) w := fun _ _ _ _ => rfl
  obtain ⟨rk, rg, ro, rn⟩ := r
  by_cases h8 : 8 < deep
  · have d8 : decide ((8 : Int) < (deep : Int)) = true := decide_eq_true (by omega)
    go_enter_defers Try.func66, Try.ntmps66
    go_wp2_with fail
    refine ⟨.tuple #[zN, .int .i64 70], by simp [results, Try.results66, go_sem], ?_, ?_⟩
    · exact ((((Below.refl _ _).alloc (Nat.le_refl _) _).alloc (by simp) _).alloc (by simp; omega) _).alloc (by simp; omega) _
    · simp only [pageE, if_pos h8]
  · have d8 : decide ((8 : Int) < (deep : Int)) = false := decide_eq_false (by omega)
    have hm : ∀ (a : Addr) (w : World), (method 302 23 (.pointer (some a)) "Read").run Try.prog w = .ok (148, .pointer (some a)) w := fun _ _ => by kernel_rfl
    have b4 : Below w.heap.size w ((((w.alloc (.cells #[.iface 23 (.pointer (some ⟨h, 0, none⟩))] 106)).alloc (.cells #[.int .u64 (rk : Int), .int .i64 rg, .int .i64 ro, .int .i64 rn] 27)).alloc (.cells #[.bool false, .slice none 0 0, .slice none 0 0] 60)).alloc (.cells #[.int .i64 0] 28)) :=
      ((((Below.refl _ _).alloc (Nat.le_refl _) _).alloc (by simp) _).alloc (by simp; omega) _).alloc (by simp; omega) _
    have k6 := (Blk.new ((w.alloc (.cells #[.iface 23 (.pointer (some ⟨h, 0, none⟩))] 106)).alloc (.cells #[.int .u64 (rk : Int), .int .i64 rg, .int .i64 ro, .int .i64 rn] 27)) 60 #[.bool false, .slice none 0 0, .slice none 0 0]).alloc (.cells #[.int .i64 0] 28)
    have k7 := Blk.new (((w.alloc (.cells #[.iface 23 (.pointer (some ⟨h, 0, none⟩))] 106)).alloc (.cells #[.int .u64 (rk : Int), .int .i64 rg, .int .i64 ro, .int .i64 rn] 27)).alloc (.cells #[.bool false, .slice none 0 0, .slice none 0 0] 60)) 28 #[.int .i64 0]
    simp only [World.size_alloc] at k6 k7
    have hread := read_any ⟨rk, rg, ro, rn⟩ h S ns _ (hh.agree (fun g hg => b4.block g (hh.lt g hg)) b4.size) hr
    go_enter_defers Try.func66, Try.ntmps66
    go_wp2_with fail
    refine hread.mono ?_
    rintro e w1 ⟨hb1, hres⟩
    have b1 := b4.trans (hb1.mono b4.size)
    have hb1s := hb1.size
    simp only [World.size_alloc] at hb1s
    have k6 := k6.below hb1 k6.lt
    have k7 := k7.below hb1 k7.lt
    have h06 : w.heap.size ≤ w.heap.size + 1 + 1 := by omega
    have h07 : w.heap.size ≤ w.heap.size + 1 + 1 + 1 := by omega
    have hne : w.heap.size + 1 + 1 ≠ w.heap.size + 1 + 1 + 1 := by omega
    have hout : Hid (∀ y : N, OwnNF w1 (fun g => w.heap.size + 1 + 1 + 1 + 1 ≤ g ∧ g < w1.heap.size) y → OwnNF w1 (fun g => (w.heap.size ≤ g ∧ g < w1.heap.size) ∧ g ≠ w.heap.size + 1 + 1 ∧ g ≠ w.heap.size + 1 + 1 + 1) y) := lay (fun y hy => hy.mono fun g hg => ⟨⟨by omega, hg.2⟩, by omega, by omega⟩)
    clear hread b4 hb1
    cases hp : pageAt ns ⟨rk, rg, ro, rn⟩ with
    | none =>
      rw [hp] at hres
      simp only at hres
      subst hres
      generalize w.heap.size + 1 + 1 + 1 = g7 at *
      generalize w.heap.size + 1 + 1 = g6 at *
      have T1 : Two w1 g6 g7 (.bool false) (.slice none 0 0) (.slice none 0 0) (.int .i64 0) := ⟨k6, k7⟩
      have A1 : ∀ j, j ≠ g6 → j ≠ g7 → w1.heap[j]? = w1.heap[j]? := fun _ _ _ => rfl
      have Z1 : w1.heap.size = w1.heap.size := rfl
      have c0 := T1.x.cell 0
      have c1 := T1.x.cell 1
      have c2 := T1.x.cell 2
      have c3 := T1.y.cell 0
      have z0 := T1.x.frozen 0
      have z1 := T1.x.frozen 1
      have z2 := T1.x.frozen 2
      have z3 := T1.y.frozen 0
      simp at c0 c1 c2 c3
      have T2 := T1.set hne (.bool false) (.slice none 0 0) (.slice none 0 0) (.int .i64 71)
      have b2 := set4_below b1 (g := g6) (k := g7) h06 h07 (.bool false) (.slice none 0 0) (.slice none 0 0) (.int .i64 71)
      have A2 := fun j h h' => (set4_heap w1 g6 g7 (.bool false) (.slice none 0 0) (.slice none 0 0) (.int .i64 71) j h h').trans (A1 j h h')
      have Z2 := (set4_size w1 g6 g7 (.bool false) (.slice none 0 0) (.slice none 0 0) (.int .i64 71)).trans Z1
      go_upto_region 5 with (fail)
      unfold set4 at T2 b2 A2 Z2
      clear c0 c1 c2 c3 z0 z1 z2 z3
      generalize (((((w1).setCell ⟨g6, 0, none⟩ (.bool false)).setCell ⟨g6, 1, none⟩ (.slice none 0 0)).setCell ⟨g6, 2, none⟩ (.slice none 0 0)).setCell ⟨g7, 0, none⟩ (.int .i64 71)) = w2 at T2 b2 A2 Z2 ⊢
      have c0 := T2.x.cell 0
      have c1 := T2.x.cell 1
      have c2 := T2.x.cell 2
      have c3 := T2.y.cell 0
      have z0 := T2.x.frozen 0
      have z1 := T2.x.frozen 1
      have z2 := T2.x.frozen 2
      have z3 := T2.y.frozen 0
      simp at c0 c1 c2 c3
      have T3 := T2.set hne (.bool false) (.slice none 0 0) (.slice none 0 0) (.int .i64 71)
      have b3 := set4_below b2 (g := g6) (k := g7) h06 h07 (.bool false) (.slice none 0 0) (.slice none 0 0) (.int .i64 71)
      have A3 := fun j h h' => (set4_heap w2 g6 g7 (.bool false) (.slice none 0 0) (.slice none 0 0) (.int .i64 71) j h h').trans (A2 j h h')
      have Z3 := (set4_size w2 g6 g7 (.bool false) (.slice none 0 0) (.slice none 0 0) (.int .i64 71)).trans Z2
      go_wp2_with fail
      have gl7 := T2.y.lt
      have gl6 := T2.x.lt
      clear c0 c1 c2 z0 z1 z2 z3 T3 b3 A3 Z3 hout
      refine Code.wp_mono (Q := fun e a w => e = Exit.normal ∧ _) (fun e a w h => h.2) ?_
      have hS1 : Below w2.heap.size w2 w2.drew := (Below.refl _ _).drew
      have hS0 : Keep (fun g => g = g6) w2 w2.drew := Keep.of_below hS1
      refine mix.region_D (fun w' => Keep (fun g => g = g6) w2 w') (fun j => j == 3) (by kernel_rfl) ?_
      generalize w2.drew = w2d at hS0 hS1 ⊢
      refine mix.D_take (i := 0) (v := ?_) rfl (by kernel_rfl) (by kernel_rfl) (fun _ _ _ h => by cases h.1) (Or.inl ⟨by rfl, ?_⟩) hS0 ?_
      rotate_left
      · intro w' hSw
        have y0 := (hSw.cell (p := ⟨g7, 0, none⟩) gl7 hne.symm).trans c3
        try simp only [List.getElem_toArray, List.getElem_cons_zero, List.getElem_cons_succ]
        go_simp
        exact rfl
      try simp only [Act.put, List.setIfInBounds_toArray, List.set_cons_zero, List.set_cons_succ, List.getElem_toArray, List.getElem_cons_zero, List.getElem_cons_succ]
      refine mix.D_take (i := 1) (v := ?_) rfl (by kernel_rfl) (by kernel_rfl) (fun _ _ _ h => by cases h.1) (Or.inl ⟨by rfl, ?_⟩) hS0 ?_
      rotate_left
      · intro w' hSw
        have y0 := (hSw.cell (p := ⟨g7, 0, none⟩) gl7 hne.symm).trans c3
        try simp only [List.getElem_toArray, List.getElem_cons_zero, List.getElem_cons_succ]
        go_simp
        exact rfl
      try simp only [Act.put, List.setIfInBounds_toArray, List.set_cons_zero, List.set_cons_succ, List.getElem_toArray, List.getElem_cons_zero, List.getElem_cons_succ]
      refine mix.D_op (k := 2) rfl rfl (by kernel_rfl) (fun K' hK => ?_)
      simp only [List.getElem_toArray, List.getElem_cons_zero, List.getElem_cons_succ]
      have kx := T2.x.below hS1 gl6
      have ky := T2.y.below hS1 gl7
      have c0 := kx.cell 0
      have c1 := kx.cell 1
      have c2 := kx.cell 2
      have z0 := kx.frozen 0
      have z1 := kx.frozen 1
      have z2 := kx.frozen 2
      simp at c0 c1 c2
      go_wp2_with fail
      have hb1 : Keep (fun g => g = g6) w2 (((w2d.setCell ⟨g6, 0, none⟩ (.bool false)).setCell ⟨g6, 1, none⟩ (.slice none 0 0)).setCell ⟨g6, 2, none⟩ (.slice none 0 0)) := ⟨hS1.os, hS1.tape, hS1.output, by simpa using hS1.size, fun k hk hn => by
        rw [Below.heap_setCell _ _ _ _ (by simpa using hn), Below.heap_setCell _ _ _ _ (by simpa using hn), Below.heap_setCell _ _ _ _ (by simpa using hn)]; exact hS1.block k hk⟩
      have hs1 := hb1.size
      have kx9 := ((kx.put 0 (.bool false)).put 1 (.slice none 0 0)).put 2 (.slice none 0 0)
      have ky9 := hb1.blk T2.y hne.symm
      simp at kx9
      clear c0 c1 c2 z0 z1 z2 kx ky hS1
      generalize ((w2d.setCell ⟨g6, 0, none⟩ (.bool false)).setCell ⟨g6, 1, none⟩ (.slice none 0 0)).setCell ⟨g6, 2, none⟩ (.slice none 0 0) = wb1 at hb1 hs1 kx9 ky9 ⊢
      refine hK.out _ _ (fun _ => hb1) ?_
      clear hK K'
      try simp only [Act.put, List.setIfInBounds_toArray, List.set_cons_zero, List.set_cons_succ]
      refine mix.D_op (k := 3) rfl rfl (by kernel_rfl) (fun K' hK => ?_)
      simp only [List.getElem_toArray, List.getElem_cons_zero, List.getElem_cons_succ]
      have c3 := ky9.cell 0
      have z3 := ky9.frozen 0
      simp at c3
      go_wp2_with fail
      refine hK.out _ _ (fun h => by simp at h) ?_
      clear hK K'
      refine mix.D_done (by kernel_rfl) ⟨rfl, ?_⟩ _
      have b3 : Below w.heap.size w (wb1.setCell ⟨g7, 0, none⟩ (.int .i64 71)) := (b2.trans (hb1.below (fun g hg => by omega) (by have := b2.size; omega))).setCell (p := ⟨g7, 0, none⟩) h07 _
      have c0 := (kx9.far (p := ⟨g7, 0, none⟩) hne (.int .i64 71)).cell 0
      have c1 := (kx9.far (p := ⟨g7, 0, none⟩) hne (.int .i64 71)).cell 1
      have c2 := (kx9.far (p := ⟨g7, 0, none⟩) hne (.int .i64 71)).cell 2
      have c3 := (ky9.put 0 (.int .i64 71)).cell 0
      simp at c0 c1 c2 c3
      go_wp2_with fail
      generalize wb1.setCell ⟨g7, 0, none⟩ (.int .i64 71) = w3 at *
      refine leaves_cons (f := 89) (args := #[.pointer (some ⟨g6, 0, none⟩), .pointer (some ⟨g7, 0, none⟩)]) (by simp) (by simp [go_sem]) ?_
      refine (catch_idle _ _ _).mono ?_
      rintro e u' w'' ⟨rfl, rfl, rfl⟩
      refine ⟨.tuple #[zN, .int .i64 71], by simp [results, Try.results66, go_sem, c0, c1, c2, c3], b3, ?_⟩
      rw [pageE, if_neg h8, hp]
    | some x =>
      rw [hp] at hres
      obtain ⟨⟨ylf, yes, yks, yA, yc, yQ, ym⟩, rfl, hy, hyO⟩ := hres
      simp only [World.size_alloc] at hyO
      have hyO := hout.out _ hyO
      generalize w.heap.size + 1 + 1 + 1 = g7 at *
      generalize w.heap.size + 1 + 1 = g6 at *
      have T1 : Two w1 g6 g7 (.bool false) (.slice none 0 0) (.slice none 0 0) (.int .i64 0) := ⟨k6, k7⟩
      have A1 : ∀ j, j ≠ g6 → j ≠ g7 → w1.heap[j]? = w1.heap[j]? := fun _ _ _ => rfl
      have Z1 : w1.heap.size = w1.heap.size := rfl
      have c0 := T1.x.cell 0
      have c1 := T1.x.cell 1
      have c2 := T1.x.cell 2
      have c3 := T1.y.cell 0
      have z0 := T1.x.frozen 0
      have z1 := T1.x.frozen 1
      have z2 := T1.x.frozen 2
      have z3 := T1.y.frozen 0
      simp at c0 c1 c2 c3
      have T2 := T1.set hne (.bool ylf) (.slice yA yes.length yc) (.slice yQ yks.length ym) (.int .i64 0)
      have b2 := set4_below b1 (g := g6) (k := g7) h06 h07 (.bool ylf) (.slice yA yes.length yc) (.slice yQ yks.length ym) (.int .i64 0)
      have A2 := fun j h h' => (set4_heap w1 g6 g7 (.bool ylf) (.slice yA yes.length yc) (.slice yQ yks.length ym) (.int .i64 0) j h h').trans (A1 j h h')
      have Z2 := (set4_size w1 g6 g7 (.bool ylf) (.slice yA yes.length yc) (.slice yQ yks.length ym) (.int .i64 0)).trans Z1
      go_upto_region 5 with (fail)
      unfold set4 at T2 b2 A2 Z2
      clear c0 c1 c2 c3 z0 z1 z2 z3
      generalize (((((w1).setCell ⟨g6, 0, none⟩ (.bool ylf)).setCell ⟨g6, 1, none⟩ (.slice yA yes.length yc)).setCell ⟨g6, 2, none⟩ (.slice yQ yks.length ym)).setCell ⟨g7, 0, none⟩ (.int .i64 0)) = w2 at T2 b2 A2 Z2 ⊢
      have c0 := T2.x.cell 0
      have c1 := T2.x.cell 1
      have c2 := T2.x.cell 2
      have c3 := T2.y.cell 0
      have z0 := T2.x.frozen 0
      have z1 := T2.x.frozen 1
      have z2 := T2.x.frozen 2
      have z3 := T2.y.frozen 0
      simp at c0 c1 c2 c3
      by_cases hq : ylf = false ∧ yks = []
      · obtain ⟨rfl, rfl⟩ := hq
        have T3 := T2.set hne (.bool false) (.slice none 0 0) (.slice none 0 0) (.int .i64 70)
        have b3 := set4_below b2 (g := g6) (k := g7) h06 h07 (.bool false) (.slice none 0 0) (.slice none 0 0) (.int .i64 70)
        have A3 := fun j h h' => (set4_heap w2 g6 g7 (.bool false) (.slice none 0 0) (.slice none 0 0) (.int .i64 70) j h h').trans (A2 j h h')
        have Z3 := (set4_size w2 g6 g7 (.bool false) (.slice none 0 0) (.slice none 0 0) (.int .i64 70)).trans Z2
        have hpe : pageE ns ⟨rk, rg, ro, rn⟩ deep = .error 70 := by
          rw [pageE, if_neg h8, hp]
          simp only
          rw [if_pos (by rw [← hy]; exact ⟨rfl, rfl⟩)]
        have hpe := vers.lay hpe
        clear hy
        go_wp2_with fail
        unfold set4 at T3 b3 A3 Z3
        clear c0 c1 c2 c3 z0 z1 z2 z3
        generalize (((((w2).setCell ⟨g6, 0, none⟩ (.bool false)).setCell ⟨g6, 1, none⟩ (.slice none 0 0)).setCell ⟨g6, 2, none⟩ (.slice none 0 0)).setCell ⟨g7, 0, none⟩ (.int .i64 70)) = w3 at T3 b3 A3 Z3 ⊢
        have c0 := T3.x.cell 0
        have c1 := T3.x.cell 1
        have c2 := T3.x.cell 2
        have c3 := T3.y.cell 0
        have z0 := T3.x.frozen 0
        have z1 := T3.x.frozen 1
        have z2 := T3.x.frozen 2
        have z3 := T3.y.frozen 0
        simp at c0 c1 c2 c3
        refine leaves_cons (f := 89) (args := #[.pointer (some ⟨g6, 0, none⟩), .pointer (some ⟨g7, 0, none⟩)]) (by simp) (by simp [go_sem]) ?_
        refine (catch_idle _ _ _).mono ?_
        rintro e u' w'' ⟨rfl, rfl, rfl⟩
        refine ⟨.tuple #[zN, .int .i64 70], by simp [results, Try.results66, go_sem, c0, c1, c2, c3], b3, ?_⟩
        rw [hpe.out]
      · have hpe : pageE ns ⟨rk, rg, ro, rn⟩ deep = .ok x := by
          rw [pageE, if_neg h8, hp]
          simp only
          rw [if_neg (by rw [← hy]; exact hq)]
        have hy3 := hyO.agree (fun g hg => A2 g hg.2.1 hg.2.2)
        have hcop := copied_any ylf yes yks yA yc yQ ym w2 (hy3.ns.1.es) (hy3.ns.2.ks)
        have hqq : (ylf = true ∨ ((yks.length : Int) == 0) = false) := by
          cases ylf with
          | true => exact .inl rfl
          | false => exact .inr (beq_eq_false_iff_ne.2 (by have : yks ≠ [] := fun e => hq ⟨rfl, e⟩; have := List.length_pos_iff.2 this; omega))
        have HY := lay hy
        have hpe := vers.lay hpe
        clear hq hy
        cases ylf with
        | true =>
          go_wp2_with fail
          refine hcop.mono ?_
          rintro e w3 ⟨⟨zlf, zes, zks, zA, zc, zQ, zm⟩, rfl, hz, hzO, hb3⟩
          have g6l := T2.x.lt
          have g7l := T2.y.lt
          have T3 : Two w3 g6 g7 (.bool true) (.slice yA yes.length yc) (.slice yQ yks.length ym) (.int .i64 0) := ⟨T2.x.below hb3 g6l, T2.y.below hb3 g7l⟩
          have b3 := b2.trans (hb3.mono b2.size)
          have A3 : ∀ j, j ≠ g6 → j ≠ g7 → w3.heap[j]? = w3.heap[j]? := fun _ _ _ => rfl
          have Z3 : w3.heap.size = w3.heap.size := rfl
          have bs2 := b2.size
          clear c0 c1 c2 c3 z0 z1 z2 z3 hcop
          have c0 := T3.x.cell 0
          have c1 := T3.x.cell 1
          have c2 := T3.x.cell 2
          have c3 := T3.y.cell 0
          have z0 := T3.x.frozen 0
          have z1 := T3.x.frozen 1
          have z2 := T3.x.frozen 2
          have z3 := T3.y.frozen 0
          simp at c0 c1 c2 c3
          have T4 := T3.set hne (.bool zlf) (.slice zA zes.length zc) (.slice zQ zks.length zm) (.int .i64 0)
          have b4 := set4_below b3 (g := g6) (k := g7) h06 h07 (.bool zlf) (.slice zA zes.length zc) (.slice zQ zks.length zm) (.int .i64 0)
          have A4 := fun j h h' => (set4_heap w3 g6 g7 (.bool zlf) (.slice zA zes.length zc) (.slice zQ zks.length zm) (.int .i64 0) j h h').trans (A3 j h h')
          have Z4 := (set4_size w3 g6 g7 (.bool zlf) (.slice zA zes.length zc) (.slice zQ zks.length zm) (.int .i64 0)).trans Z3
          have HZ := vers.lay hz
          clear hz
          go_wp2_with fail
          unfold set4 at T4 b4 A4 Z4
          clear c0 c1 c2 c3 z0 z1 z2 z3
          generalize (((((w3).setCell ⟨g6, 0, none⟩ (.bool zlf)).setCell ⟨g6, 1, none⟩ (.slice zA zes.length zc)).setCell ⟨g6, 2, none⟩ (.slice zQ zks.length zm)).setCell ⟨g7, 0, none⟩ (.int .i64 0)) = w4 at T4 b4 A4 Z4 ⊢
          have c0 := T4.x.cell 0
          have c1 := T4.x.cell 1
          have c2 := T4.x.cell 2
          have c3 := T4.y.cell 0
          have z0 := T4.x.frozen 0
          have z1 := T4.x.frozen 1
          have z2 := T4.x.frozen 2
          have z3 := T4.y.frozen 0
          simp at c0 c1 c2 c3
          refine leaves_cons (f := 89) (args := #[.pointer (some ⟨g6, 0, none⟩), .pointer (some ⟨g7, 0, none⟩)]) (by simp) (by simp [go_sem]) ?_
          refine (catch_idle _ _ _).mono ?_
          rintro e u' w'' ⟨rfl, rfl, rfl⟩
          refine ⟨.tuple #[(⟨zlf, zes, zks, zA, zc, zQ, zm⟩ : N).val, .int .i64 0], by simp [results, Try.results66, go_sem, c0, c1, c2, c3], b4, ?_⟩
          rw [hpe.out]
          exact ⟨_, rfl, HZ.out.trans HY.out, (hzO.agree (fun g hg => A4 g (by omega) (by omega))).mono fun g hg => ⟨by omega, by omega⟩⟩
        | false =>
          have hq1 : ((yks.length : Int) == 0) = false := by simpa using hqq
          go_wp2_with fail
          refine hcop.mono ?_
          rintro e w3 ⟨⟨zlf, zes, zks, zA, zc, zQ, zm⟩, rfl, hz, hzO, hb3⟩
          have g6l := T2.x.lt
          have g7l := T2.y.lt
          have T3 : Two w3 g6 g7 (.bool false) (.slice yA yes.length yc) (.slice yQ yks.length ym) (.int .i64 0) := ⟨T2.x.below hb3 g6l, T2.y.below hb3 g7l⟩
          have b3 := b2.trans (hb3.mono b2.size)
          have A3 : ∀ j, j ≠ g6 → j ≠ g7 → w3.heap[j]? = w3.heap[j]? := fun _ _ _ => rfl
          have Z3 : w3.heap.size = w3.heap.size := rfl
          have bs2 := b2.size
          clear c0 c1 c2 c3 z0 z1 z2 z3 hcop
          have c0 := T3.x.cell 0
          have c1 := T3.x.cell 1
          have c2 := T3.x.cell 2
          have c3 := T3.y.cell 0
          have z0 := T3.x.frozen 0
          have z1 := T3.x.frozen 1
          have z2 := T3.x.frozen 2
          have z3 := T3.y.frozen 0
          simp at c0 c1 c2 c3
          have T4 := T3.set hne (.bool zlf) (.slice zA zes.length zc) (.slice zQ zks.length zm) (.int .i64 0)
          have b4 := set4_below b3 (g := g6) (k := g7) h06 h07 (.bool zlf) (.slice zA zes.length zc) (.slice zQ zks.length zm) (.int .i64 0)
          have A4 := fun j h h' => (set4_heap w3 g6 g7 (.bool zlf) (.slice zA zes.length zc) (.slice zQ zks.length zm) (.int .i64 0) j h h').trans (A3 j h h')
          have Z4 := (set4_size w3 g6 g7 (.bool zlf) (.slice zA zes.length zc) (.slice zQ zks.length zm) (.int .i64 0)).trans Z3
          have HZ := vers.lay hz
          clear hz
          go_wp2_with fail
          unfold set4 at T4 b4 A4 Z4
          clear c0 c1 c2 c3 z0 z1 z2 z3
          generalize (((((w3).setCell ⟨g6, 0, none⟩ (.bool zlf)).setCell ⟨g6, 1, none⟩ (.slice zA zes.length zc)).setCell ⟨g6, 2, none⟩ (.slice zQ zks.length zm)).setCell ⟨g7, 0, none⟩ (.int .i64 0)) = w4 at T4 b4 A4 Z4 ⊢
          have c0 := T4.x.cell 0
          have c1 := T4.x.cell 1
          have c2 := T4.x.cell 2
          have c3 := T4.y.cell 0
          have z0 := T4.x.frozen 0
          have z1 := T4.x.frozen 1
          have z2 := T4.x.frozen 2
          have z3 := T4.y.frozen 0
          simp at c0 c1 c2 c3
          refine leaves_cons (f := 89) (args := #[.pointer (some ⟨g6, 0, none⟩), .pointer (some ⟨g7, 0, none⟩)]) (by simp) (by simp [go_sem]) ?_
          refine (catch_idle _ _ _).mono ?_
          rintro e u' w'' ⟨rfl, rfl, rfl⟩
          refine ⟨.tuple #[(⟨zlf, zes, zks, zA, zc, zQ, zm⟩ : N).val, .int .i64 0], by simp [results, Try.results66, go_sem, c0, c1, c2, c3], b4, ?_⟩
          rw [hpe.out]
          exact ⟨_, rfl, HZ.out.trans HY.out, (hzO.agree (fun g hg => A4 g (by omega) (by omega))).mono fun g hg => ⟨by omega, by omega⟩⟩

end Go.Proofs.Ytmbhfibldklecaa.trees

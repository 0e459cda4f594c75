/- Cache's find, and the search of makeRoom. -/
import Derived.Test.YtoenkkbcpafanaaA21


namespace Go.Proofs.Ytoenkkbcpafanaa.caches
set_option linter.unusedVariables false
set_option linter.unusedSimpArgs false
open Go.RowKit Go.Proofs.Ytoenkkbcpafanaa.base Go.Proofs.Ytoenkkbcpafanaa.vers Go.Proofs.Ytoenkkbcpafanaa.nodes Go.Proofs.Ytoenkkbcpafanaa.trees

def atR (l : List PH) (r : R) : Option Nat := l.findIdx? (fun x => decide (x.1 = r))
def freeP (l : List PH) : Option Nat := l.findIdx? (fun x => decide (x.2.2 = 0))
def oi : Option Nat → Int
  | some j => (j : Int)
  | none => -1
theorem idx_yes {α : Type} {l : List α} {q : α → Bool} {j : Nat} (hj : j < l.length) (h : q l[j] = true) (hn : ∀ i (hi : i < l.length), i < j → q l[i] = false) : l.findIdx? q = some j := by
  rw [List.findIdx?_eq_some_iff_getElem]
  exact ⟨hj, h, fun i hi => by simp [hn i (by omega) hi]⟩
theorem idx_no {α : Type} {l : List α} {q : α → Bool} (hn : ∀ i (hi : i < l.length), q l[i] = false) : l.findIdx? q = none := by
  rw [List.findIdx?_eq_none_iff]
  intro x hx
  obtain ⟨i, hi, rfl⟩ := List.getElem_of_mem hx
  exact hn i hi
theorem atR_map (l : List H) (r : R) : atR (l.map H.ph) r = l.findIdx? (fun x => decide (x.r = r)) := by unfold atR; rw [List.findIdx?_map]; rfl
theorem freeP_map (l : List H) : freeP (l.map H.ph) = l.findIdx? (fun x => decide (x.p = 0)) := by unfold freeP; rw [List.findIdx?_map]; rfl
set_option maxRecDepth 100000 in
set_option maxHeartbeats 4000000 in
theorem same_any (x : H) (rk : Nat) (rg ro rn : Int) (b : Nat) (w : World) (hb : Blk w b 27 #[.int .u64 (rk : Int), .int .i64 rg, .int .i64 ro, .int .i64 rn]) :
    Calls Try.prog 166 #[x.val, .pointer (some ⟨b, 0, none⟩)] w fun e w' => e = .returned (.bool (decide (x.r = ⟨rk, rg, ro, rn⟩))) ∧ Below w.heap.size w w' := by
  have hq := fun u => ref_eql x.r ⟨rk, rg, ro, rn⟩ u
  have kb := hb.below ((Below.refl w.heap.size w).alloc (Nat.le_refl _) (.cells #[.int .u64 (x.r.k : Int), .int .i64 x.r.g, .int .i64 x.r.o, .int .i64 x.r.n, .bool x.n.lf, .slice x.n.A x.n.es.length x.n.c, .slice x.n.Q x.n.ks.length x.n.m, .int .i64 (x.p : Int)] 110)) hb.lt
  have bA : Below w.heap.size w (w.alloc (.cells #[.int .u64 (x.r.k : Int), .int .i64 x.r.g, .int .i64 x.r.o, .int .i64 x.r.n, .bool x.n.lf, .slice x.n.A x.n.es.length x.n.c, .slice x.n.Q x.n.ks.length x.n.m, .int .i64 (x.p : Int)] 110)) := (Below.refl _ _).alloc (Nat.le_refl _) _
  have r0 := kb.cell 0
  have r1 := kb.cell 1
  have r2 := kb.cell 2
  have r3 := kb.cell 3
  simp only [List.getElem?_toArray, List.getElem?_cons_zero, List.getElem?_cons_succ] at r0 r1 r2 r3
  have hbl := hb.lt
  obtain ⟨⟨xk, xg, xo, xn⟩, xN, xp, xF⟩ := x
  obtain ⟨d, hd⟩ : ∃ d, decide ((⟨xk, xg, xo, xn⟩ : R) = ⟨rk, rg, ro, rn⟩) = d := ⟨_, rfl⟩
  simp only at hq
  rw [hd] at hq
  simp only
  rw [hd]
  clear hd hb kb
  go_enter Try.func166, Try.ntmps166
  go_wp2_with fail
  go_ret
  exact ⟨rfl, bA⟩
set_option maxRecDepth 100000 in
set_option maxHeartbeats 4000000 in
theorem loose_any (x : H) (w : World) :
    Calls Try.prog 172 #[x.val] w fun e w' => e = .returned (.bool (decide (x.p = 0))) ∧ Below w.heap.size w w' := by
  have bA : Below w.heap.size w (w.alloc (.cells #[.int .u64 (x.r.k : Int), .int .i64 x.r.g, .int .i64 x.r.o, .int .i64 x.r.n, .bool x.n.lf, .slice x.n.A x.n.es.length x.n.c, .slice x.n.Q x.n.ks.length x.n.m, .int .i64 (x.p : Int)] 110)) := (Below.refl _ _).alloc (Nat.le_refl _) _
  obtain ⟨d, hd⟩ : ∃ d, decide (x.p = 0) = d := ⟨_, rfl⟩
  have h1 : ((x.p : Int) == 0) = d := by rw [← hd]; by_cases h : x.p = 0 <;> simp [h]
  have h2 : decide ((x.p : Int) = 0) = d := by rw [← hd]; by_cases h : x.p = 0 <;> simp [h]
  rw [hd]
  go_enter Try.func172, Try.ntmps172
  go_wp2_with fail
  go_ret
  exact ⟨rfl, bA⟩
section
variable {w w' : World} {p g room f m : Nat} {Z : Nat → Prop} {l l' : List H}

set_option maxRecDepth 100000 in
set_option maxHeartbeats 4000000 in
theorem index_find (h : Ca w p g Z room f m l) (rk : Nat) (rg ro rn : Int) (b : Nat) (hk : Blk w b 27 #[.int .u64 (rk : Int), .int .i64 rg, .int .i64 ro, .int .i64 rn]) :
    Calls Try.prog 165 #[.slice (some ⟨g, 0, none⟩) l.length room, .func (.func 166) #[] #[.pointer (some ⟨b, 0, none⟩)]] w fun e w' => e = .returned (.int .i64 (oi (l.findIdx? (fun x => decide (x.r = ⟨rk, rg, ro, rn⟩))))) ∧ Below w.heap.size w w' := by
  have hlen := h.len
  have hcap := h.cap
  have HC := vers.lay h
  have HK := vers.lay hk
  clear hk
  obtain ⟨n, hn⟩ : ∃ n, n = l.length := ⟨_, rfl⟩
  have HN := vers.lay hn
  rw [← hn] at hlen ⊢
  clear h hn
  go_enter Try.func165, Try.ntmps165
  go_wp2_with fail
  go_loopw [8] (fun i wr => ∃ j : Nat, j ≤ n ∧ i = .int .i64 (j : Int) ∧ Below w.heap.size w wr ∧ Hid (∀ i (hi : i < l.length), i < j → decide (l[i].r = ⟨rk, rg, ro, rn⟩) = false)) (fun i _ => n - (RowKit.intOf i).toNat)
  case atStart => exact ⟨0, Nat.zero_le _, rfl, Below.refl _ _, vers.lay fun i _ hi => absurd hi (Nat.not_lt_zero _)⟩
  case round =>
    obtain ⟨j, hj, rfl, hb, hH⟩ := hrel
    by_cases hlt : j < n
    · have hjl : j < l.length := by rw [← HN.out]; exact hlt
      obtain ⟨y0, y1, y2, y3, y4, y5, y6, y7⟩ := (HC.out.below hb).at_ hjl
      have hgl := (HC.out.below hb).head.2.1
      have hcj := same_any l[j] rk rg ro rn b wr (HK.out.below hb HK.out.lt)
      by_cases hp : decide (l[j].r = ⟨rk, rg, ro, rn⟩) = true
      · rw [hp] at hcj
        have hR := vers.lay (idx_yes (q := fun x => decide (x.r = ⟨rk, rg, ro, rn⟩)) hjl hp hH.out)
        generalize l[j] = t at *
        clear hp hH
        go_wp2_with (go_at_call 166; refine hcj.mono ?_; rintro e1 w1 ⟨rfl, hb1⟩)
        go_ret
        exact ⟨by rw [hR.out]; rfl, hb.trans (hb1.mono hb.size)⟩
      · have hp : decide (l[j].r = ⟨rk, rg, ro, rn⟩) = false := by simpa using hp
        rw [hp] at hcj
        have hH2 := vers.lay (show ∀ i (hi : i < l.length), i < j + 1 → decide (l[i].r = ⟨rk, rg, ro, rn⟩) = false from fun i hi hij => by
          rcases Nat.lt_or_ge i j with h | h
          · exact hH.out i hi h
          · obtain rfl : i = j := by omega
            exact hp)
        generalize l[j] = t at *
        clear hp hH
        go_wp2_with (go_at_call 166; refine hcj.mono ?_; rintro e1 w1 ⟨rfl, hb1⟩)
        have hb2 := hb.trans (hb1.mono hb.size)
        exact ⟨⟨j + 1, hlt, by go_num, hb2, hH2⟩, by first | (simp [RowKit.intOf]; done) | (simp [RowKit.intOf]; omega) | omega⟩
    · obtain rfl : j = n := by omega
      have hR := vers.lay (idx_no (l := l) (q := fun x => decide (x.r = ⟨rk, rg, ro, rn⟩)) (fun i hi => hH.out i hi (by rw [HN.out]; exact hi)))
      clear hH
      go_wp2_with fail
      go_ret
      exact ⟨by rw [hR.out]; rfl, hb⟩

set_option maxRecDepth 100000 in
set_option maxHeartbeats 4000000 in
theorem index_free (h : Ca w p g Z room f m l) :
    Calls Try.prog 165 #[.slice (some ⟨g, 0, none⟩) l.length room, .func (.func 172) #[] #[]] w fun e w' => e = .returned (.int .i64 (oi (l.findIdx? (fun x => decide (x.p = 0))))) ∧ Below w.heap.size w w' := by
  have hlen := h.len
  have hcap := h.cap
  have HC := vers.lay h
  obtain ⟨n, hn⟩ : ∃ n, n = l.length := ⟨_, rfl⟩
  have HN := vers.lay hn
  rw [← hn] at hlen ⊢
  clear h hn
  go_enter Try.func165, Try.ntmps165
  go_wp2_with fail
  go_loopw [8] (fun i wr => ∃ j : Nat, j ≤ n ∧ i = .int .i64 (j : Int) ∧ Below w.heap.size w wr ∧ Hid (∀ i (hi : i < l.length), i < j → decide (l[i].p = 0) = false)) (fun i _ => n - (RowKit.intOf i).toNat)
  case atStart => exact ⟨0, Nat.zero_le _, rfl, Below.refl _ _, vers.lay fun i _ hi => absurd hi (Nat.not_lt_zero _)⟩
  case round =>
    obtain ⟨j, hj, rfl, hb, hH⟩ := hrel
    by_cases hlt : j < n
    · have hjl : j < l.length := by rw [← HN.out]; exact hlt
      obtain ⟨y0, y1, y2, y3, y4, y5, y6, y7⟩ := (HC.out.below hb).at_ hjl
      have hgl := (HC.out.below hb).head.2.1
      have hcj := loose_any l[j] wr
      by_cases hp : decide (l[j].p = 0) = true
      · rw [hp] at hcj
        have hR := vers.lay (idx_yes (q := fun x => decide (x.p = 0)) hjl hp hH.out)
        generalize l[j] = t at *
        clear hp hH
        go_wp2_with (go_at_call 172; refine hcj.mono ?_; rintro e1 w1 ⟨rfl, hb1⟩)
        go_ret
        exact ⟨by rw [hR.out]; rfl, hb.trans (hb1.mono hb.size)⟩
      · have hp : decide (l[j].p = 0) = false := by simpa using hp
        rw [hp] at hcj
        have hH2 := vers.lay (show ∀ i (hi : i < l.length), i < j + 1 → decide (l[i].p = 0) = false from fun i hi hij => by
          rcases Nat.lt_or_ge i j with h | h
          · exact hH.out i hi h
          · obtain rfl : i = j := by omega
            exact hp)
        generalize l[j] = t at *
        clear hp hH
        go_wp2_with (go_at_call 172; refine hcj.mono ?_; rintro e1 w1 ⟨rfl, hb1⟩)
        have hb2 := hb.trans (hb1.mono hb.size)
        exact ⟨⟨j + 1, hlt, by go_num, hb2, hH2⟩, by first | (simp [RowKit.intOf]; done) | (simp [RowKit.intOf]; omega) | omega⟩
    · obtain rfl : j = n := by omega
      have hR := vers.lay (idx_no (l := l) (q := fun x => decide (x.p = 0)) (fun i hi => hH.out i hi (by rw [HN.out]; exact hi)))
      clear hH
      go_wp2_with fail
      go_ret
      exact ⟨by rw [hR.out]; rfl, hb⟩

set_option maxRecDepth 100000 in
set_option maxHeartbeats 4000000 in
theorem find_ok (h : Ca w p g Z room f m l) (r : R) :
    Calls Try.prog 112 #[.pointer (some ⟨p, 0, none⟩), r.val] w fun e w' => e = .returned (.int .i64 (oi (atR (l.map H.ph) r))) ∧ Below w.heap.size w w' := by
  obtain ⟨rk, rg, ro, rn⟩ := r
  rw [atR_map]
  have hlen := h.len
  have hcap := h.cap
  have bA : Below w.heap.size w (w.alloc (.cells #[.int .u64 (rk : Int), .int .i64 rg, .int .i64 ro, .int .i64 rn] 27)) := (Below.refl _ _).alloc (Nat.le_refl _) _
  have kA := Blk.new w 27 #[.int .u64 (rk : Int), .int .i64 rg, .int .i64 ro, .int .i64 rn]
  have h2 := h.below bA
  obtain ⟨hp, hg, x0, _, _, _⟩ := h2.head
  have HI := vers.lay (index_find h2 rk rg ro rn w.heap.size kA)
  clear kA h2 h
  go_enter Try.func112, Try.ntmps112
  go_wp2_with (go_at_call 165; refine HI.out.mono ?_; rintro e1 w1 ⟨rfl, hb1⟩)
  go_ret
  exact ⟨rfl, bA.trans (hb1.mono bA.size)⟩
end
end Go.Proofs.Ytoenkkbcpafanaa.caches

/- Cache's wipe, makeRoom, Wipe, Kept, Hits. -/

namespace Go.Proofs.Ytoenkkbcpafanaa.caches
set_option linter.unusedVariables false
set_option linter.unusedSimpArgs false
open Go.RowKit Go.Proofs.Ytoenkkbcpafanaa.base Go.Proofs.Ytoenkkbcpafanaa.vers Go.Proofs.Ytoenkkbcpafanaa.nodes Go.Proofs.Ytoenkkbcpafanaa.trees

def outL {α : Type} (l : List α) (i : Nat) : List α := l.take i ++ l.drop (i + 1)
theorem outL_map {α β : Type} (φ : α → β) (l : List α) (i : Nat) : (outL l i).map φ = outL (l.map φ) i := by unfold outL; simp [List.map_take, List.map_drop]
theorem outL_len {α : Type} (l : List α) {i : Nat} (hi : i < l.length) : (outL l i).length = l.length - 1 := by unfold outL; simp; omega
theorem mvL_out {α : Type} (l : List α) {i : Nat} (hi : i < l.length) : mvL l i = outL l i ++ [l[i]] := mvL_eq l hi
def makeP (room : Nat) (l : List PH) : Int × List PH := if l.length < room then (0, l) else match freeP l with
  | none => (150, l)
  | some j => (0, outL l j)
section
variable {w w' w2 : World} {p g room f m : Nat} {Z : Nat → Prop} {l l' : List H}
theorem Ca.shorter {A L : List H} (h : Ca w p g Z room f m (A ++ L)) (hr : w'.ownsRow 0 110 8 (.slice (some ⟨g, 0, none⟩) A.length room) A.length (cellsH A)) (hk : Keep (fun b => b = g ∨ ∃ x ∈ L, x.F b) w w') :
    Ca (w'.setCell ⟨p, 0, none⟩ (.slice (some ⟨g, 0, none⟩) A.length room)) p g Z room f m A ∧ Keep Z w (w'.setCell ⟨p, 0, none⟩ (.slice (some ⟨g, 0, none⟩) A.length room)) := by
  have hpw := h.head.1
  have far : ∀ k, k ≠ p → (w'.setCell ⟨p, 0, none⟩ (.slice (some ⟨g, 0, none⟩) A.length room)).heap[k]? = w'.heap[k]? := fun k hk => Below.heap_setCell _ _ _ _ (by simpa using hk)
  have hpx : ∀ x ∈ A ++ L, ¬ x.F p := fun x hx e => ((h.node x hx).2 p e).2.1 rfl
  have kp : Blk w' p _ _ := hk.blk h.blk (by rintro (e | ⟨x, hx, e⟩); exact h.ne e.symm; exact hpx x (List.mem_append_right _ hx) e)
  refine ⟨⟨by simpa using kp.put 0 (.slice (some ⟨g, 0, none⟩) A.length room), ownsRow_agree hr fun b hb => (by cases hb; exact far g h.ne), h.cap, h.ne, fun b hb => by have := h.zlt b hb; have := hk.size; simp; omega, h.zp, h.zg, fun x hx => ⟨?_, (h.node x (List.mem_append_left _ hx)).2⟩, (List.pairwise_append.1 h.apart).1, fun x hx => h.fits x (List.mem_append_left _ hx)⟩, ?_⟩
  · have hN := h.node x (List.mem_append_left _ hx)
    refine hN.1.agree fun b hb => (far b (hN.2 b hb).2.1).trans (hk.block b (h.zlt b (hN.2 b hb).1) ?_)
    rintro (e | ⟨y, hy, e⟩)
    · exact (hN.2 b hb).2.2 e
    · exact (List.pairwise_append.1 h.apart).2.2 x hx y hy b hb e
  · refine (hk.mono (G := Z) ?_).trans (S1 := fun b => b = p) ⟨rfl, rfl, rfl, by simp, fun k _ hn => far k hn⟩ fun b e _ => (by subst e; exact h.zp)
    rintro b (e | ⟨y, hy, e⟩) _
    · rw [e]; exact h.zg
    · exact ((h.node y (List.mem_append_right _ hy)).2 b e).1
theorem Ca.zkeep (h : Ca w p g Z room f m l) (hk : Keep (fun b => b = g) w w') : Keep Z w w' := hk.mono fun b e _ => (by rw [e]; exact h.zg)
set_option maxRecDepth 100000 in
set_option maxHeartbeats 4000000 in
theorem wipe_ok (h : Ca w p g Z room f m l) {i : Nat} (hi : i < l.length) :
    Calls Try.prog 119 #[.pointer (some ⟨p, 0, none⟩), .int .i64 (i : Int)] w fun e w' => e = .returned (.tuple #[]) ∧ Ca w' p g Z room f m (outL l i) ∧ Keep Z w w' := by
  have hlen := h.len
  have hcap := h.cap
  have HC := vers.lay (putLast_ok h hi)
  have HZ := vers.lay (fun w' (hk : Keep (fun b => b = g) w w') => h.zkeep hk)
  have hol := outL_len l hi
  have hmo := mvL_out l hi
  obtain ⟨k, hk⟩ : ∃ k, l.length = k + 1 := ⟨l.length - 1, by omega⟩
  rw [hk] at hlen hol
  rw [Nat.add_sub_cancel] at hol
  obtain ⟨A, hA⟩ : ∃ A, outL l i = A := ⟨_, rfl⟩
  rw [hA] at hol hmo ⊢
  rw [hmo] at HC
  generalize l[i] = x at *
  clear h hA hmo hk
  have HO := vers.lay hol
  clear hol
  go_enter Try.func119, Try.ntmps119
  go_upto_region 1 with (go_at_call 114; refine HC.out.mono ?_; rintro e1 w1 ⟨rfl, h1, k1⟩)
  have H1 := vers.lay h1
  have HK1 := vers.lay (HZ.out _ k1)
  obtain ⟨hp, hg, x0, _, _, _⟩ := h1.head
  rw [List.length_append, List.length_singleton, HO.out] at x0
  have hFG := forget_any A [x] g room (room - k) w1 h1.row (by have := h1.len; omega) (fun y hy => (h1.node y (List.mem_append_right _ hy)).1) (fun y hy b hb => h1.zlt b ((h1.node y (List.mem_append_right _ hy)).2 b hb).1) (fun y hy b hb => ((h1.node y (List.mem_append_right _ hy)).2 b hb).2.2) (List.pairwise_singleton _ _)
  rw [HO.out] at hFG
  have HF := vers.lay hFG
  clear hFG h1 k1 HC
  have o1 : IntKind.i64.wrap ((k : Int) + 1 - 1) = (k : Int) := by rw [Int.add_sub_cancel]; exact IntWalk.i64_in _ (by omega)
  have o2 : IntKind.i64.wrap (k : Int) = (k : Int) := IntWalk.i64_in _ (by omega)
  have o3 : (0 : Int) ≤ (k : Int) := by omega
  have o4 : (k : Int) ≤ (k : Int) + 1 := by omega
  have o5 : (k : Int) ≤ (room : Int) := by omega
  have o6 : ¬ (room = k) := by omega
  have o7 : (k : Int) + 1 ≤ (room : Int) := by omega
  have o8 : k + 1 - k = 1 := by omega
  go_upto_region 3 with (go_at_call 120; refine HF.out.mono ?_; rintro e2 w2 ⟨rfl, hr2, k2⟩)
  obtain ⟨c2, z2⟩ := H1.out.shorter (A := A) (L := [x]) (w' := w2) (by rw [HO.out]; exact hr2) k2
  rw [HO.out] at c2 z2
  have kp := k2.blk H1.out.blk (by rintro (e | ⟨y, hy, e⟩); exact H1.out.ne e.symm; exact ((H1.out.node y (List.mem_append_right _ hy)).2 p e).2.1 rfl)
  have x2 := kp.cell 0
  have f2 := kp.frozen 0
  have l2 := kp.lt
  simp only [List.getElem?_toArray, List.getElem?_cons_zero, List.getElem?_cons_succ, List.length_append, List.length_singleton] at x2
  rw [HO.out] at x2
  have HC2 := vers.lay c2
  have HZ2 := vers.lay (HK1.out.trans z2 fun _ h _ => h)
  clear c2 z2 hr2 k2 kp x0
  go_wp2_with fail
  refine bodyPost_end (v := .tuple #[]) (by simp [results, Try.results119, go_sem]) rfl ⟨rfl, HC2.out, HZ2.out⟩

theorem below_drewN (w : World) (n : Nat) : Below w.heap.size w (w.drewN n) := ⟨rfl, rfl, rfl, Nat.le_refl _, fun _ _ => rfl⟩
set_option maxRecDepth 100000 in
set_option maxHeartbeats 4000000 in
theorem makeRoom_ok (h : Ca w p g Z room f m l) :
    Calls Try.prog 121 #[.pointer (some ⟨p, 0, none⟩)] w fun e w' => ∃ (E : Int) (l' : List H), e = .returned (.int .i64 E) ∧ (E, l'.map H.ph) = makeP room (l.map H.ph) ∧ Ca w' p g Z room f m l' ∧ Keep Z w w' := by
  have hlen := h.len
  have hcap := h.cap
  obtain ⟨hp, hg, x0, x1, _, _⟩ := h.head
  have HH := vers.lay h
  obtain ⟨n, hn⟩ : ∃ n, n = l.length := ⟨_, rfl⟩
  have HN := vers.lay hn
  rw [← hn] at hlen x0
  clear h hn
  by_cases hc : n < room
  · have d1 : decide ((n : Int) < (room : Int)) = true := decide_eq_true (by omega)
    have d2 : decide (n < room) = true := decide_eq_true hc
    have hM := vers.lay (show ((0 : Int), l.map H.ph) = makeP room (l.map H.ph) by unfold makeP; rw [if_pos (by rw [List.length_map, ← HN.out]; exact hc)])
    go_enter Try.func121, Try.ntmps121
    go_upto_region 1 with (fail)
    go_quiet (fail)
    go_wp2_with fail
    go_ret
    exact ⟨0, l, rfl, hM.out, HH.out.below (below_drewN _ _), Keep.of_below (below_drewN _ _)⟩
  · have d1 : decide ((n : Int) < (room : Int)) = false := decide_eq_false (by omega)
    have d2 : decide (n < room) = false := decide_eq_false hc
    have hM := fun e (he : freeP (l.map H.ph) = e) => (show makeP room (l.map H.ph) = _ by unfold makeP; rw [if_neg (by rw [List.length_map, ← HN.out]; exact hc), he])
    have hfl : ∀ j, freeP (l.map H.ph) = some j → j < l.length := fun j hj => by
      unfold freeP at hj
      rw [List.findIdx?_eq_some_iff_getElem] at hj
      obtain ⟨h, _⟩ := hj
      simpa using h
    go_enter Try.func121, Try.ntmps121
    go_upto_region 1 with (fail)
    go_quiet (fail)
    generalize hwq : w.drewN _ = wq at *
    have bq : Below w.heap.size w wq := by rw [← hwq]; exact below_drewN _ _
    have h1 := HH.out.below bq
    have hI := index_free h1
    rw [← HN.out, ← freeP_map] at hI
    obtain ⟨hp1, hg1, y0, y1, _, _⟩ := h1.head
    rw [← HN.out] at y0
    have H1 := vers.lay h1
    have BQ := vers.lay bq
    clear h1 bq hwq x0 x1
    cases hfr : freeP (l.map H.ph) with
    | none =>
      have hM1 := vers.lay (hM _ hfr)
      rw [hfr] at hI
      clear hM hfl hfr
      go_wp2_with (go_at_call 165; refine hI.mono ?_; rintro e1 w1 ⟨rfl, hb1⟩)
      go_ret
      exact ⟨150, l, rfl, hM1.out.symm, H1.out.below hb1, Keep.of_below (BQ.out.trans (hb1.mono BQ.out.size))⟩
    | some j =>
      have hM1 := vers.lay (hM _ hfr)
      have hj := hfl j hfr
      have HJ := vers.lay hj
      rw [hfr] at hI
      have j0 : decide ((j : Int) < 0) = false := decide_eq_false (by omega)
      clear hM hfl hfr hj
      go_upto_region 6 with (go_at_call 165; refine hI.mono ?_; rintro e1 w1 ⟨rfl, hb1⟩)
      have hw := wipe_ok (H1.out.below hb1) HJ.out
      go_wp2_with (go_at_call 119; refine hw.mono ?_; rintro e2 w2 ⟨rfl, h2, k2⟩)
      go_ret
      refine ⟨0, outL l j, rfl, ?_, h2, Keep.trans (S := Z) (Keep.of_below (BQ.out.trans (hb1.mono BQ.out.size))) k2 fun _ h _ => h⟩
      rw [hM1.out, outL_map]
end
end Go.Proofs.Ytoenkkbcpafanaa.caches

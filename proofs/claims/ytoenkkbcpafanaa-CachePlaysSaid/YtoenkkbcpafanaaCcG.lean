/- Cache's find, and the search of makeRoom. -/
import Derived.Test.YtoenkkbcpafanaaCcF


namespace Go.Proofs.Ytoenkkbcpafanaa.caches
set_option linter.unusedVariables false
set_option linter.unusedSimpArgs false
open Go.RowKit Go.Proofs.Ytoenkkbcpafanaa.base Go.Proofs.Ytoenkkbcpafanaa.vers Go.Proofs.Ytoenkkbcpafanaa.nodes Go.Proofs.Ytoenkkbcpafanaa.trees

def atR (l : List PH) (r : R) : Option Nat := l.findIdx? (fun x => decide (x.1 = r))
def freeP (l : List PH) : Option Nat := l.findIdx? (fun x => decide (x.2.2 = 0))
def oi : Option Nat → Int
  | some j => (j : Int)
  | none => -1
theorem idx_yes {α : Type} {l : List α} {q : α → Bool} {j : Nat} (hj : j < l.length) (h : q l[j] = true) (hn : ∀ i (hi : i < l.length), i < j → q l[i] = false) : l.findIdx? q = some j := by
  rw [List.findIdx?_eq_some_iff_getElem]
  exact ⟨hj, h, fun i hi => by simp [hn i (by omega) hi]⟩
theorem idx_no {α : Type} {l : List α} {q : α → Bool} (hn : ∀ i (hi : i < l.length), q l[i] = false) : l.findIdx? q = none := by
  rw [List.findIdx?_eq_none_iff]
  intro x hx
  obtain ⟨i, hi, rfl⟩ := List.getElem_of_mem hx
  exact hn i hi
theorem atR_map (l : List H) (r : R) : atR (l.map H.ph) r = l.findIdx? (fun x => decide (x.r = r)) := by unfold atR; rw [List.findIdx?_map]; rfl
theorem freeP_map (l : List H) : freeP (l.map H.ph) = l.findIdx? (fun x => decide (x.p = 0)) := by unfold freeP; rw [List.findIdx?_map]; rfl
set_option maxRecDepth 100000 in
set_option maxHeartbeats 4000000 in
theorem same_any (x : H) (rk : Nat) (rg ro rn : Int) (b : Nat) (w : World) (hb : Blk w b 27 #[.int .u64 (rk : Int), .int .i64 rg, .int .i64 ro, .int .i64 rn]) :
    Calls Try.prog 166 #[x.val, .pointer (some ⟨b, 0, none⟩)] w fun e w' => e = .returned (.bool (decide (x.r = ⟨rk, rg, ro, rn⟩))) ∧ Below w.heap.size w w' := by
  have hq := fun u => ref_eql x.r ⟨rk, rg, ro, rn⟩ u
  have kb := hb.below ((Below.refl w.heap.size w).alloc (Nat.le_refl _) (.cells #[.int .u64 (x.r.k : Int), .int .i64 x.r.g, .int .i64 x.r.o, .int .i64 x.r.n, .bool x.n.lf, .slice x.n.A x.n.es.length x.n.c, .slice x.n.Q x.n.ks.length x.n.m, .int .i64 (x.p : Int)] 110)) hb.lt
  have bA : Below w.heap.size w (w.alloc (.cells #[.int .u64 (x.r.k : Int), .int .i64 x.r.g, .int .i64 x.r.o, .int .i64 x.r.n, .bool x.n.lf, .slice x.n.A x.n.es.length x.n.c, .slice x.n.Q x.n.ks.length x.n.m, .int .i64 (x.p : Int)] 110)) := (Below.refl _ _).alloc (Nat.le_refl _) _
  have r0 := kb.cell 0
  have r1 := kb.cell 1
  have r2 := kb.cell 2
  have r3 := kb.cell 3
  simp only [List.getElem?_toArray, List.getElem?_cons_zero, List.getElem?_cons_succ] at r0 r1 r2 r3
  have hbl := hb.lt
  obtain ⟨⟨xk, xg, xo, xn⟩, xN, xp, xF⟩ := x
  obtain ⟨d, hd⟩ : ∃ d, decide ((⟨xk, xg, xo, xn⟩ : R) = ⟨rk, rg, ro, rn⟩) = d := ⟨_, rfl⟩
  simp only at hq
  rw [hd] at hq
  simp only
  rw [hd]
  clear hd hb kb
  go_enter Try.func166, Try.ntmps166
  go_wp2_with fail
  go_ret
  exact ⟨rfl, bA⟩
set_option maxRecDepth 100000 in
set_option maxHeartbeats 4000000 in
theorem loose_any (x : H) (w : World) :
    Calls Try.prog 172 #[x.val] w fun e w' => e = .returned (.bool (decide (x.p = 0))) ∧ Below w.heap.size w w' := by
  have bA : Below w.heap.size w (w.alloc (.cells #[.int .u64 (x.r.k : Int), .int .i64 x.r.g, .int .i64 x.r.o, .int .i64 x.r.n, .bool x.n.lf, .slice x.n.A x.n.es.length x.n.c, .slice x.n.Q x.n.ks.length x.n.m, .int .i64 (x.p : Int)] 110)) := (Below.refl _ _).alloc (Nat.le_refl _) _
  obtain ⟨d, hd⟩ : ∃ d, decide (x.p = 0) = d := ⟨_, rfl⟩
  have h1 : ((x.p : Int) == 0) = d := by rw [← hd]; by_cases h : x.p = 0 <;> simp [h]
  have h2 : decide ((x.p : Int) = 0) = d := by rw [← hd]; by_cases h : x.p = 0 <;> simp [h]
  rw [hd]
  go_enter Try.func172, Try.ntmps172
  go_wp2_with fail
  go_ret
  exact ⟨rfl, bA⟩
section
variable {w w' : World} {p g room f m : Nat} {Z : Nat → Prop} {l l' : List H}

set_option maxRecDepth 100000 in
set_option maxHeartbeats 4000000 in
theorem index_find (h : Ca w p g Z room f m l) (rk : Nat) (rg ro rn : Int) (b : Nat) (hk : Blk w b 27 #[.int .u64 (rk : Int), .int .i64 rg, .int .i64 ro, .int .i64 rn]) :
    Calls Try.prog 165 #[.slice (some ⟨g, 0, none⟩) l.length room, .func (.func 166) #[] #[.pointer (some ⟨b, 0, none⟩)]] w fun e w' => e = .returned (.int .i64 (oi (l.findIdx? (fun x => decide (x.r = ⟨rk, rg, ro, rn⟩))))) ∧ Below w.heap.size w w' := by
  have hlen := h.len
  have hcap := h.cap
  have HC := vers.lay h
  have HK := vers.lay hk
  clear hk
  obtain ⟨n, hn⟩ : ∃ n, n = l.length := ⟨_, rfl⟩
  have HN := vers.lay hn
  rw [← hn] at hlen ⊢
  clear h hn
  go_enter Try.func165, Try.ntmps165
  go_wp2_with fail
  go_loopw [8] (fun i wr => ∃ j : Nat, j ≤ n ∧ i = .int .i64 (j : Int) ∧ Below w.heap.size w wr ∧ Hid (∀ i (hi : i < l.length), i < j → decide (l[i].r = ⟨rk, rg, ro, rn⟩) = false)) (fun i _ => n - (RowKit.intOf i).toNat)
  case atStart => exact ⟨0, Nat.zero_le _, rfl, Below.refl _ _, vers.lay fun i _ hi => absurd hi (Nat.not_lt_zero _)⟩
  case round =>
    obtain ⟨j, hj, rfl, hb, hH⟩ := hrel
    by_cases hlt : j < n
    · have hjl : j < l.length := by rw [← HN.out]; exact hlt
      obtain ⟨y0, y1, y2, y3, y4, y5, y6, y7⟩ := (HC.out.below hb).at_ hjl
      have hgl := (HC.out.below hb).head.2.1
      have hcj := same_any l[j] rk rg ro rn b wr (HK.out.below hb HK.out.lt)
      by_cases hp : decide (l[j].r = ⟨rk, rg, ro, rn⟩) = true
      · rw [hp] at hcj
        have hR := vers.lay (idx_yes (q := fun x => decide (x.r = ⟨rk, rg, ro, rn⟩)) hjl hp hH.out)
        generalize l[j] = t at *
        clear hp hH
        go_wp2_with (go_at_call 166; refine hcj.mono ?_; rintro e1 w1 ⟨rfl, hb1⟩)
        go_ret
        exact ⟨by rw [hR.out]; rfl, hb.trans (hb1.mono hb.size)⟩
      · have hp : decide (l[j].r = ⟨rk, rg, ro, rn⟩) = false := by simpa using hp
        rw [hp] at hcj
        have hH2 := vers.lay (show ∀ i (hi : i < l.length), i < j + 1 → decide (l[i].r = ⟨rk, rg, ro, rn⟩) = false from fun i hi hij => by
          rcases Nat.lt_or_ge i j with h | h
          · exact hH.out i hi h
          · obtain rfl : i = j := by omega
            exact hp)
        generalize l[j] = t at *
        clear hp hH
        go_wp2_with (go_at_call 166; refine hcj.mono ?_; rintro e1 w1 ⟨rfl, hb1⟩)
        have hb2 := hb.trans (hb1.mono hb.size)
        exact ⟨⟨j + 1, hlt, by go_num, hb2, hH2⟩, by first | (simp [RowKit.intOf]; done) | (simp [RowKit.intOf]; omega) | omega⟩
    · obtain rfl : j = n := by omega
      have hR := vers.lay (idx_no (l := l) (q := fun x => decide (x.r = ⟨rk, rg, ro, rn⟩)) (fun i hi => hH.out i hi (by rw [HN.out]; exact hi)))
      clear hH
      go_wp2_with fail
      go_ret
      exact ⟨by rw [hR.out]; rfl, hb⟩

set_option maxRecDepth 100000 in
set_option maxHeartbeats 4000000 in
theorem index_free (h : Ca w p g Z room f m l) :
    Calls Try.prog 165 #[.slice (some ⟨g, 0, none⟩) l.length room, .func (.func 172) #[] #[]] w fun e w' => e = .returned (.int .i64 (oi (l.findIdx? (fun x => decide (x.p = 0))))) ∧ Below w.heap.size w w' := by
  have hlen := h.len
  have hcap := h.cap
  have HC := vers.lay h
  obtain ⟨n, hn⟩ : ∃ n, n = l.length := ⟨_, rfl⟩
  have HN := vers.lay hn
  rw [← hn] at hlen ⊢
  clear h hn
  go_enter Try.func165, Try.ntmps165
  go_wp2_with fail
  go_loopw [8] (fun i wr => ∃ j : Nat, j ≤ n ∧ i = .int .i64 (j : Int) ∧ Below w.heap.size w wr ∧ Hid (∀ i (hi : i < l.length), i < j → decide (l[i].p = 0) = false)) (fun i _ => n - (RowKit.intOf i).toNat)
  case atStart => exact ⟨0, Nat.zero_le _, rfl, Below.refl _ _, vers.lay fun i _ hi => absurd hi (Nat.not_lt_zero _)⟩
  case round =>
    obtain ⟨j, hj, rfl, hb, hH⟩ := hrel
    by_cases hlt : j < n
    · have hjl : j < l.length := by rw [← HN.out]; exact hlt
      obtain ⟨y0, y1, y2, y3, y4, y5, y6, y7⟩ := (HC.out.below hb).at_ hjl
      have hgl := (HC.out.below hb).head.2.1
      have hcj := loose_any l[j] wr
      by_cases hp : decide (l[j].p = 0) = true
      · rw [hp] at hcj
        have hR := vers.lay (idx_yes (q := fun x => decide (x.p = 0)) hjl hp hH.out)
        generalize l[j] = t at *
        clear hp hH
        go_wp2_with (go_at_call 172; refine hcj.mono ?_; rintro e1 w1 ⟨rfl, hb1⟩)
        go_ret
        exact ⟨by rw [hR.out]; rfl, hb.trans (hb1.mono hb.size)⟩
      · have hp : decide (l[j].p = 0) = false := by simpa using hp
        rw [hp] at hcj
        have hH2 := vers.lay (show ∀ i (hi : i < l.length), i < j + 1 → decide (l[i].p = 0) = false from fun i hi hij => by
          rcases Nat.lt_or_ge i j with h | h
          · exact hH.out i hi h
          · obtain rfl : i = j := by omega
            exact hp)
        generalize l[j] = t at *
        clear hp hH
        go_wp2_with (go_at_call 172; refine hcj.mono ?_; rintro e1 w1 ⟨rfl, hb1⟩)
        have hb2 := hb.trans (hb1.mono hb.size)
        exact ⟨⟨j + 1, hlt, by go_num, hb2, hH2⟩, by first | (simp [RowKit.intOf]; done) | (simp [RowKit.intOf]; omega) | omega⟩
    · obtain rfl : j = n := by omega
      have hR := vers.lay (idx_no (l := l) (q := fun x => decide (x.p = 0)) (fun i hi => hH.out i hi (by rw [HN.out]; exact hi)))
      clear hH
      go_wp2_with fail
      go_ret
      exact ⟨by rw [hR.out]; rfl, hb⟩

set_option maxRecDepth 100000 in
set_option maxHeartbeats 4000000 in
theorem find_ok (h : Ca w p g Z room f m l) (r : R) :
    Calls Try.prog 112 #[.pointer (some ⟨p, 0, none⟩), r.val] w fun e w' => e = .returned (.int .i64 (oi (atR (l.map H.ph) r))) ∧ Below w.heap.size w w' := by
  obtain ⟨rk, rg, ro, rn⟩ := r
  rw [atR_map]
  have hlen := h.len
  have hcap := h.cap
  have bA : Below w.heap.size w (w.alloc (.cells #[.int .u64 (rk : Int), .int .i64 rg, .int .i64 ro, .int .i64 rn] 27)) := (Below.refl _ _).alloc (Nat.le_refl _) _
  have kA := Blk.new w 27 #[.int .u64 (rk : Int), .int .i64 rg, .int .i64 ro, .int .i64 rn]
  have h2 := h.below bA
  obtain ⟨hp, hg, x0, _, _, _⟩ := h2.head
  have HI := vers.lay (index_find h2 rk rg ro rn w.heap.size kA)
  clear kA h2 h
  go_enter Try.func112, Try.ntmps112
  go_wp2_with (go_at_call 165; refine HI.out.mono ?_; rintro e1 w1 ⟨rfl, hb1⟩)
  go_ret
  exact ⟨rfl, bA.trans (hb1.mono bA.size)⟩
end
end Go.Proofs.Ytoenkkbcpafanaa.caches

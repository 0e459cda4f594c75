/- The document's cache: its state; At, out. -/
import Derived.Test.YtoenkkbcpafanaaCcR


namespace Go.Proofs.Ytoenkkbcpafanaa.caches
set_option linter.unusedVariables false
set_option linter.unusedSimpArgs false
open Go.RowKit Go.Proofs.Ytoenkkbcpafanaa.base Go.Proofs.Ytoenkkbcpafanaa.vers Go.Proofs.Ytoenkkbcpafanaa.nodes Go.Proofs.Ytoenkkbcpafanaa.trees

/-- the document's cache in block rp, its list in row v, all in blocks F -/
structure Rf (w : World) (rp : Nat) (F : Nat → Prop) (room f m : Nat) (v : Value) (l : List H) : Prop where
  blk : Blk w rp 100 #[.int .i64 (room : Int), v, .int .i64 (f : Int), .int .i64 (m : Int)]
  row : w.ownsRow 0 110 8 v l.length (cellsH l)
  flt : ∀ b, F b → b < w.heap.size
  fp : F rp
  fv : ∀ b, v.ownBlock = some b → F b ∧ b ≠ rp
  node : ∀ x ∈ l, NsF w (fun b => F b ∧ b ≠ rp ∧ v.ownBlock ≠ some b) x.n
  len : l.length ≤ room
  cap : room ≤ 32
section
variable {w w' : World} {rp room f m f' m' : Nat} {F G : Nat → Prop} {v v' : Value} {l l' : List H}
theorem Rf.agree (h : Rf w rp F room f m v l) (hk : Agree w w' F) (hs : w.heap.size ≤ w'.heap.size) : Rf w' rp F room f m v l :=
  ⟨(hk rp h.fp).trans h.blk, ownsRow_agree h.row fun b hb => hk b (h.fv b hb).1, fun b hb => Nat.lt_of_lt_of_le (h.flt b hb) hs, h.fp, h.fv, fun x hx => (h.node x hx).agree (hk.mono fun b hb => hb.1), h.len, h.cap⟩
theorem Rf.below (h : Rf w rp F room f m v l) (hb : Below w.heap.size w w') : Rf w' rp F room f m v l := h.agree (Agree.of_below hb h.flt) hb.size
theorem Rf.keep {S : Nat → Prop} (h : Rf w rp F room f m v l) (hk : Keep S w w') (hS : ∀ b, F b → ¬ S b) : Rf w' rp F room f m v l := h.agree (hk.agree fun b hb => ⟨h.flt b hb, hS b hb⟩) hk.size
theorem Rf.head (h : Rf w rp F room f m v l) : rp < w.heap.size ∧ w.cell? ⟨rp, 0, none⟩ = some (.int .i64 (room : Int)) ∧ w.cell? ⟨rp, 1, none⟩ = some v ∧ w.cell? ⟨rp, 2, none⟩ = some (.int .i64 (f : Int)) ∧ w.cell? ⟨rp, 3, none⟩ = some (.int .i64 (m : Int)) := ⟨h.blk.lt, h.blk.cell 0, h.blk.cell 1, h.blk.cell 2, h.blk.cell 3⟩
theorem Rf.slice (h : Rf w rp F room f m v l) : ∃ A c, v = .slice A l.length c ∧ l.length ≤ c ∧ (A = none → c = 0) ∧ RdF w (fun b => v.ownBlock = some b) A (cellsH l) := row_rdF h.row
end
/-- all of the first j but the one at i -/
def outTo {α : Type} (l : List α) (i j : Nat) : List α := l.take (min i j) ++ (l.take j).drop (i + 1)
theorem outTo_zero {α : Type} (l : List α) (i : Nat) : outTo l i 0 = [] := by unfold outTo; simp
theorem outTo_all {α : Type} (l : List α) {i : Nat} (hi : i < l.length) : outTo l i l.length = outL l i := by unfold outTo outL; rw [Nat.min_eq_left (by omega), List.take_length]
theorem outTo_yes {α : Type} (l : List α) {i j : Nat} (hj : j < l.length) (h : j ≠ i) : outTo l i (j + 1) = outTo l i j ++ [l[j]] := by
  unfold outTo
  rcases Nat.lt_or_ge j i with h1 | h1
  · rw [Nat.min_eq_right (by omega), Nat.min_eq_right (by omega), List.drop_eq_nil_of_le (by rw [List.length_take]; omega), List.drop_eq_nil_of_le (by rw [List.length_take]; omega), List.take_succ_eq_append_getElem hj]
    simp
  · rw [Nat.min_eq_left (by omega), Nat.min_eq_left (by omega), List.take_succ_eq_append_getElem hj, List.drop_append_of_le_length (by rw [List.length_take]; omega), List.append_assoc]
theorem outTo_no {α : Type} (l : List α) (i : Nat) : outTo l i (i + 1) = outTo l i i := by
  unfold outTo
  rw [Nat.min_eq_left (by omega), Nat.min_self, List.drop_eq_nil_of_le (by rw [List.length_take]; omega), List.drop_eq_nil_of_le (by rw [List.length_take]; omega)]
theorem outTo_mem {α : Type} (l : List α) (i j : Nat) : ∀ x ∈ outTo l i j, x ∈ l := fun x hx => by
  rcases List.mem_append.1 hx with h | h
  · exact List.mem_of_mem_take h
  · exact List.mem_of_mem_take (List.mem_of_mem_drop h)
theorem outTo_len {α : Type} (l : List α) (i j : Nat) : (outTo l i j).length ≤ j := by unfold outTo; simp; omega
section
variable {w w' : World} {rp room f m f' m' : Nat} {F G : Nat → Prop} {v v' : Value} {l l' : List H}
set_option maxRecDepth 100000 in
set_option maxHeartbeats 16000000 in
theorem atR_ok (h : Rf w rp F room f m v l) (rk : Nat) (rg ro rn : Int) :
    Calls Try.prog 115 #[.pointer (some ⟨rp, 0, none⟩), .agg #[.int .u64 (rk : Int), .int .i64 rg, .int .i64 ro, .int .i64 rn]] w fun e w' => e = .returned (.int .i64 (oi (atR (l.map H.ph) ⟨rk, rg, ro, rn⟩))) ∧ Below w.heap.size w w' := by
  rw [atR_map]
  obtain ⟨ans, hans⟩ : ∃ ans, oi (l.findIdx? (fun x => decide (x.r = ⟨rk, rg, ro, rn⟩))) = ans := ⟨_, rfl⟩
  rw [hans]
  have HANS := vers.lay hans
  clear hans
  have hlen := h.len
  have hcap := h.cap
  have bA : Below w.heap.size w (w.alloc (.cells #[.int .u64 (rk : Int), .int .i64 rg, .int .i64 ro, .int .i64 rn] 27)) := (Below.refl _ _).alloc (Nat.le_refl _) _
  have kA := vers.lay (Blk.new w 27 #[.int .u64 (rk : Int), .int .i64 rg, .int .i64 ro, .int .i64 rn])
  have HQ := vers.lay (fun u (x : R) => ref_eql x ⟨rk, rg, ro, rn⟩ u)
  have HH := vers.lay h
  have H0 := vers.lay (show Below w.heap.size w (w.alloc (.cells #[.int .u64 (rk : Int), .int .i64 rg, .int .i64 ro, .int .i64 rn] 27)) ∧ Below (w.heap.size + 1) (w.alloc (.cells #[.int .u64 (rk : Int), .int .i64 rg, .int .i64 ro, .int .i64 rn] 27)) (w.alloc (.cells #[.int .u64 (rk : Int), .int .i64 rg, .int .i64 ro, .int .i64 rn] 27)) ∧ w.heap.size + 1 ≤ (w.alloc (.cells #[.int .u64 (rk : Int), .int .i64 rg, .int .i64 ro, .int .i64 rn] 27)).heap.size ∧ ∀ i (hi : i < l.length), i < 0 → decide (l[i].r = ⟨rk, rg, ro, rn⟩) = false from ⟨bA, Below.refl _ _, by simp, fun i _ hi => absurd hi (Nat.not_lt_zero _)⟩)
  clear h bA
  go_enter Try.func115, Try.ntmps115
  go_upto_region 1 with (fail)
  generalize w.alloc (.cells #[.int .u64 (rk : Int), .int .i64 rg, .int .i64 ro, .int .i64 rn] 27) = W at *
  obtain ⟨q0, hq0⟩ : ∃ q0, w.heap.size = q0 := ⟨_, rfl⟩
  rw [hq0] at kA H0 ⊢
  have HQ0 := vers.lay hq0
  clear hq0
  go_wp2_with fail
  go_loopw [5] (fun i wr => ∃ j : Nat, i = .int .i64 (j : Int) ∧ j ≤ l.length ∧ Hid (Below q0 w wr ∧ Below (q0 + 1) W wr ∧ q0 + 1 ≤ wr.heap.size ∧ ∀ i (hi : i < l.length), i < j → decide (l[i].r = ⟨rk, rg, ro, rn⟩) = false)) (fun i _ => l.length - (RowKit.intOf i).toNat)
  case atStart => exact ⟨0, rfl, Nat.zero_le _, H0⟩
  case round =>
    clear H0
    obtain ⟨j, rfl, hj, HI⟩ := hrel
    have hR := HH.out.below (by have := HI.out.1; rw [← HQ0.out] at this; exact this)
    obtain ⟨hrp, _, x1, _, _⟩ := hR.head
    by_cases hlt : j < l.length
    · obtain ⟨A, c, rfl, hc, hn, hr⟩ := hR.slice
      obtain ⟨b, off, rfl, hb, y0, y1, y2, y3, _, _, _, _⟩ := RdF.h_at hr hlt
      have hbl : b < wr.heap.size := World.block_lt_of_cell? _ _ y0
      have hqx := fun u => HQ.out u l[j].r
      have HYES := vers.lay (fun (hp : decide (l[j].r = ⟨rk, rg, ro, rn⟩) = true) => idx_yes (q := fun x : H => decide (x.r = ⟨rk, rg, ro, rn⟩)) hlt hp HI.out.2.2.2)
      have HNO := vers.lay (fun (hp : decide (l[j].r = ⟨rk, rg, ro, rn⟩) = false) i (hi : i < l.length) (hij : i < j + 1) => (show decide (l[i].r = ⟨rk, rg, ro, rn⟩) = false from by
          rcases Nat.lt_or_ge i j with h | h
          · exact HI.out.2.2.2 i hi h
          · obtain rfl : i = j := by omega
            exact hp))
      have kr := kA.out.below HI.out.2.1 (by omega)
      obtain ⟨z0, z1, z2, z3⟩ : wr.cell? ⟨q0, 0, none⟩ = _ ∧ wr.cell? ⟨q0, 1, none⟩ = _ ∧ wr.cell? ⟨q0, 2, none⟩ = _ ∧ wr.cell? ⟨q0, 3, none⟩ = _ := ⟨kr.cell 0, kr.cell 1, kr.cell 2, kr.cell 3⟩
      simp only [List.getElem?_toArray, List.getElem?_cons_zero, List.getElem?_cons_succ] at z0 z1 z2 z3
      have hql := kr.lt
      clear kr hb hr hR hn
      generalize l[j] = x at *
      obtain ⟨⟨xk, xg, xo, xn⟩, xN, xp, xF⟩ := x
      simp only at y0 y1 y2 y3 hqx
      have hnx : j + 1 ≤ l.length := hlt
      obtain ⟨d, hd⟩ : ∃ d, decide ((⟨xk, xg, xo, xn⟩ : R) = ⟨rk, rg, ro, rn⟩) = d := ⟨_, rfl⟩
      simp only [hd] at hqx
      have ej : IntKind.i64.wrap ((j : Int) + 1) = (j : Int) + 1 := IntWalk.i64_in _ (by omega)
      have HWD := vers.lay (fun n => And.intro (HI.out.1.trans ((below_drewN wr n).mono (by omega))) (HI.out.2.1.trans ((below_drewN wr n).mono (by omega))))
      cases d with
      | true =>
        have HY := vers.lay (HYES.out hd)
        clear hd
        go_upto_region 4 with (fail)
        go_quiet (fail)
        go_wp2_with fail
        go_ret
        refine ⟨by rw [← HANS.out, HY.out]; rfl, ?_⟩
        rw [HQ0.out]
        exact (HWD.out _).1
      | false =>
        have HNN := vers.lay (HNO.out hd)
        clear hd
        go_upto_region 4 with (fail)
        go_quiet (fail)
        go_wp2_with fail
        exact ⟨⟨j + 1, by go_num, hnx, vers.lay ⟨(HWD.out _).1, (HWD.out _).2, by have := HI.out.2.2.1; simpa using this, HNN.out⟩⟩, by first | (simp [RowKit.intOf]; done) | (simp [RowKit.intOf]; omega) | omega⟩
    · obtain rfl : j = l.length := by omega
      have HN := vers.lay (idx_no (l := l) (q := fun x : H => decide (x.r = ⟨rk, rg, ro, rn⟩)) (fun i hi => HI.out.2.2.2 i hi hi))
      obtain ⟨A, c, rfl, hc, hn, hr⟩ := hR.slice
      clear hr hn hR
      go_wp2_with fail
      go_ret
      refine ⟨by rw [← HANS.out, HN.out]; rfl, ?_⟩
      rw [HQ0.out]
      exact HI.out.1
end
end Go.Proofs.Ytoenkkbcpafanaa.caches

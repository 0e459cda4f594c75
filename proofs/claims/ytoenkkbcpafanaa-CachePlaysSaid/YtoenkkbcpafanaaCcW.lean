/- The document's cache: out, Pin, Unpin, and what an append makes. -/
import Derived.Test.YtoenkkbcpafanaaCcV


namespace Go.Proofs.Ytoenkkbcpafanaa.caches
set_option linter.unusedVariables false
set_option linter.unusedSimpArgs false
open Go.RowKit Go.Proofs.Ytoenkkbcpafanaa.base Go.Proofs.Ytoenkkbcpafanaa.vers Go.Proofs.Ytoenkkbcpafanaa.nodes Go.Proofs.Ytoenkkbcpafanaa.trees

section
variable {w w' : World} {rp room f m f' m' : Nat} {F G : Nat → Prop} {v v' : Value} {l l' : List H}
theorem Rf.setv {w9 : World} (h : Rf w rp F room f m v l) (hK : Keep F w w9) (hb9 : Blk w9 rp 100 #[.int .i64 (room : Int), v, .int .i64 (f : Int), .int .i64 (m : Int)]) (ho : w9.ownsRow 0 110 8 v' l'.length (cellsH l')) (hv : ∀ b, v'.ownBlock = some b → (F b ∨ w.heap.size ≤ b) ∧ b ≠ rp)
    (hn : ∀ x ∈ l', NsF w9 (fun b => (F b ∨ w.heap.size ≤ b) ∧ b < w9.heap.size ∧ b ≠ rp ∧ v'.ownBlock ≠ some b) x.n) (hl : l'.length ≤ room) :
    Rf (w9.setCell ⟨rp, 1, none⟩ v') rp (fun b => (F b ∨ w.heap.size ≤ b) ∧ b < (w9.setCell ⟨rp, 1, none⟩ v').heap.size) room f m v' l' ∧ Keep F w (w9.setCell ⟨rp, 1, none⟩ v') := by
  have sz : (w9.setCell ⟨rp, 1, none⟩ v').heap.size = w9.heap.size := by simp
  have far : ∀ k, k ≠ rp → (w9.setCell ⟨rp, 1, none⟩ v').heap[k]? = w9.heap[k]? := fun k hk => Below.heap_setCell _ _ _ _ (by simpa using hk)
  rw [sz]
  have hkp := keep_p w9 rp 1 v'
  refine ⟨⟨by simpa using hb9.put 1 v', ownsRow_agree ho fun b hb => far b (hv b hb).2, fun b hb => by rw [sz]; exact hb.2, ⟨.inl h.fp, hb9.lt⟩, fun b hb => ⟨⟨(hv b hb).1, (ho.lt b hb).2⟩, (hv b hb).2⟩, fun x hx => ?_, hl, h.cap⟩, hK.trans hkp fun b e _ => e ▸ h.fp⟩
  exact ((hn x hx).agree fun b hb => far b hb.2.2.1).mono fun b hb => ⟨⟨hb.1, hb.2.1⟩, hb.2.2.1, hb.2.2.2⟩
/-- where out stands -/
structure OI (w : World) (l : List H) (i j : Nat) (v' : Value) (wr : World) : Prop where
  below : Below w.heap.size w wr
  row : wr.ownsRow 0 110 8 v' (outTo l i j).length (cellsH (outTo l i j))
  own : ∀ b, v'.ownBlock = some b → w.heap.size ≤ b
set_option maxRecDepth 100000 in
set_option maxHeartbeats 16000000 in
theorem outR_ok (h : Rf w rp F room f m v l) {i : Nat} (hi : i < l.length) :
    Calls Try.prog 116 #[.pointer (some ⟨rp, 0, none⟩), .int .i64 (i : Int)] w fun e w' => ∃ v' F', e = .returned (.tuple #[]) ∧ Rf w' rp F' room f m v' (outL l i) ∧ Keep (fun b => b = rp) w w' ∧ (∀ b, F' b → F b ∨ w.heap.size ≤ b) ∧ ∀ b, F b → F' b ∧ v'.ownBlock ≠ some b := by
  have hlen := h.len
  have hcap := h.cap
  have HH := vers.lay h
  have HI := vers.lay hi
  obtain ⟨i0, hi0, hz0, hz1, hz2⟩ := info_parts infoH
  have bA : Below w.heap.size w (w.alloc (.cells #[] 110)) := (Below.refl _ _).alloc (Nat.le_refl _) _
  have H0 := vers.lay (show OI w l i 0 (.slice (some ⟨w.heap.size, 0, none⟩) 0 0) (w.alloc (.cells #[] 110)) from ⟨bA, by rw [outTo_zero]; exact World.ownsRow_made w #[] 0 (Nat.zero_le _) (Nat.zero_le _) rfl, fun b hb => by simp [Value.ownBlock] at hb; omega⟩)
  clear h bA
  go_enter Try.func116, Try.ntmps116
  go_wp2_with fail
  generalize hW : w.alloc (.cells #[] 110) = W at *
  clear hW
  generalize (Value.slice (some ⟨w.heap.size, 0, none⟩) 0 0) = v0 at *
  go_loopw [4, 5] (fun vv ii wr => ∃ j : Nat, ii = .int .i64 (j : Int) ∧ j ≤ l.length ∧ Hid (OI w l i j vv wr)) (fun _ ii _ => l.length - (RowKit.intOf ii).toNat)
  case atStart => exact ⟨0, rfl, Nat.zero_le _, H0⟩
  case round =>
    clear H0
    obtain ⟨j, rfl, hj, HO⟩ := hrel
    generalize u4 = v2 at *
    have hR := HH.out.below HO.out.below
    obtain ⟨hrp, _, x1, _, _⟩ := hR.head
    by_cases hlt : j < l.length
    · have hr0 := hR.row
      obtain ⟨A, c, rfl, hc, hn, hr⟩ := hR.slice
      obtain ⟨b, off, rfl, hb, y0, y1, y2, y3, y4, y5, y6, y7⟩ := RdF.h_at hr hlt
      have hbl : b < wr.heap.size := World.block_lt_of_cell? _ _ y0
      have hnx : j + 1 ≤ l.length := hlt
      have ej : IntKind.i64.wrap ((j : Int) + 1) = (j : Int) + 1 := IntWalk.i64_in _ (by omega)
      have HY := vers.lay (fun (hne : j ≠ i) => outTo_yes l (i := i) hlt hne)
      clear hr hb hR hn hr0
      by_cases hji : j = i
      · subst hji
        have q1 : decide ((j : Int) = (j : Int)) = true := by simp
        have HO2 := vers.lay (show OI w l j (j + 1) v2 wr from ⟨HO.out.below, by rw [outTo_no]; exact HO.out.row, HO.out.own⟩)
        clear HO HY
        go_wp2_with fail
        exact ⟨⟨j + 1, by go_num, hnx, HO2⟩, by first | (simp [RowKit.intOf]; done) | (simp [RowKit.intOf]; omega) | omega⟩
      · have q1 : decide ((j : Int) = (i : Int)) = false := decide_eq_false (by omega)
        have q2 : ((j : Int) == (i : Int)) = false := by simp; omega
        have hY := vers.lay (HY.out hji)
        obtain ⟨x, hx⟩ : ∃ x, l[j]'hlt = x := ⟨_, rfl⟩
        rw [hx] at y0 y1 y2 y3 y4 y5 y6 y7
        have hYx := vers.lay (hY.out.trans (by rw [hx]))
        have hol := outTo_len l i j
        have hrow := HO.out.row
        obtain ⟨L2, hL2⟩ : ∃ L2, outTo l i j = L2 := ⟨_, rfl⟩
        rw [hL2] at hrow hol hYx
        clear hx HY hY hji hL2
        go_wp2_with (at_builtin; refine wpList_put1 Try.underlying98 hi0 hz0 hz1 hz2 rfl (by decide) rfl _ _ rfl hrow rfl rfl (by intro u hu; simp at hu; rcases hu with rfl | rfl | rfl | rfl | rfl | rfl | rfl | rfl <;> rfl) rfl rfl (by omega) (by unfold maxLen; omega) ?_; intro v3 w3 ho3 hk3 hv3 hz3)
        have HO2 := vers.lay (show OI w l i (j + 1) v3 w3 from ⟨HO.out.below.trans (hk3.below (fun b hb => HO.out.own b hb) HO.out.below.size), by
          rw [hYx.out, List.length_append, List.length_singleton, cellsH_app]
          simpa [cellsH, H.cells] using ho3, fun b hb => by
          rcases hv3 b hb with h | h
          · exact HO.out.own b h
          · have := HO.out.below.size; omega⟩)
        clear HO ho3 hk3 hv3 hrow
        go_wp2_with fail
        exact ⟨⟨j + 1, by go_num, hnx, HO2⟩, by first | (simp [RowKit.intOf]; done) | (simp [RowKit.intOf]; omega) | omega⟩
    · obtain rfl : j = l.length := by omega
      have hrow := HO.out.row
      rw [outTo_all l HI.out] at hrow
      have hb9 := hR.blk
      have hvl := fun b (hb : v.ownBlock = some b) => (HH.out.fv b hb).1
      obtain ⟨cR, kR⟩ := Rf.setv (v' := v2) (l' := outL l i) HH.out (Keep.of_below HO.out.below) hb9 hrow (fun b hb => ⟨.inr (HO.out.own b hb), fun e => by have := HO.out.own b hb; have := HH.out.flt rp HH.out.fp; omega⟩) (fun x hx => by
        have hx' : x ∈ l := (outL_sub l i).subset hx
        refine ((HH.out.node x hx').agree (Agree.of_below HO.out.below fun b hb => HH.out.flt b hb.1)).mono fun b hb => ⟨.inl hb.1, Nat.lt_of_lt_of_le (HH.out.flt b hb.1) HO.out.below.size, hb.2.1, fun e => ?_⟩
        have := HO.out.own b e
        have := HH.out.flt b hb.1
        omega) (by have := outL_len l HI.out; omega)
      have HC := vers.lay cR
      have HK := vers.lay (Keep.trans (S := fun b => b = rp) (Keep.of_below HO.out.below) (keep_p wr rp 1 v2) fun _ h _ => h)
      have HV2 := vers.lay (fun b (hb : F b) => (show ((F b ∨ w.heap.size ≤ b) ∧ b < (wr.setCell ⟨rp, 1, none⟩ v2).heap.size) ∧ v2.ownBlock ≠ some b from ⟨⟨.inl hb, by have := HH.out.flt b hb; have := HO.out.below.size; simp; omega⟩, fun e => by have := HO.out.own b e; have := HH.out.flt b hb; omega⟩))
      have fz := hR.blk.frozen 1
      obtain ⟨A, c, hv, _⟩ := hR.slice
      subst hv
      obtain ⟨A2, c2, hv2, _⟩ := row_rdF HO.out.row
      subst hv2
      clear cR kR hrow hb9 hR hvl
      go_wp2_with fail
      refine bodyPost_end (v := .tuple #[]) (by simp [results, Try.results116, go_sem]) rfl ⟨_, _, rfl, HC.out, HK.out, fun b hb => hb.1, HV2.out⟩
end
end Go.Proofs.Ytoenkkbcpafanaa.caches

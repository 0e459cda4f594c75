/- The walk of the law DiceOwn: it answers true and writes nothing that was there. -/
import Derived.Test.YtnkpljcfmifinaaDice
namespace Go.Proofs.Ytnkpljcfmifinaa.owns
open Go.RowKit Go.Proofs.Ytnkpljcfmifinaa.base Go.Proofs.Ytnkpljcfmifinaa.dice

theorem own_nil (w : World) (B : Nat) (hB : B ≤ w.heap.size) (e : TypeId) : (w.alloc (.cells #[] e)).ownsRow B e 1 (.slice (some ⟨w.heap.size, 0, none⟩) 0 0) 0 [] :=
  World.ownsRow_made w #[] 0 hB (by unfold maxLen; omega) (by simp)

set_option maxRecDepth 100000 in
theorem own_any (A0 : Option Addr) (len0 cap0 : Nat) (z0 : List Int) (w : World)
    (h0 : Rd w w.heap.size A0 (z0.map (Value.int .u64))) (l0 : z0.length = len0) (c0 : len0 ≤ cap0) (n0 : A0 = none → cap0 = 0) :
    Calls Try.prog 7 #[.slice A0 len0 cap0] w fun e w' => e = .returned (.bool true) ∧ Below w.heap.size w w' := by
  obtain ⟨i0, hi, hz0, hz1, hz2⟩ := info_parts info64
  have hs := fun (v : World) (hv : Rd v w.heap.size A0 (z0.map (Value.int .u64))) => short_ok A0 len0 cap0 200 w.heap.size (z0.map (Value.int .u64)) v hv (by simpa using l0) c0
  obtain ⟨zs, hzs⟩ : ∃ zs, zs = z0.take 200 := ⟨_, rfl⟩
  have hlen : min len0 200 = zs.length := by rw [hzs, List.length_take]; omega
  rw [hlen] at hs
  have hr := h0.take 200
  rw [← List.map_take, ← hzs] at hr
  have hz : zs.length ≤ 200 := by omega
  clear hlen hzs c0
  have hr1 : Rd (w.alloc (.cells #[] 31)) w.heap.size A0 (zs.map (Value.int .u64)) := hr.alloc (Nat.le_refl _) _
  have h01 : Rd (w.alloc (.cells #[] 31)) w.heap.size A0 (z0.map (Value.int .u64)) := h0.alloc (Nat.le_refl _) _
  have hb1 : Below w.heap.size w (w.alloc (.cells #[] 31)) := (Below.refl _ _).alloc (Nat.le_refl _) _
  have hn0 : Hid (A0 = none → cap0 = 0) := n0
  clear n0
  go_enter Try.func7, Try.ntmps7
  go_wp2_with (first
    | (go_at_call 8; refine (hs _ h01).mono ?_; rintro e w' ⟨rfl, rfl⟩)
    | (at_builtin; refine wpList_append_rd rfl (.tmp 9) (.tmp 11) _ rfl w.heap.size 31 i0 _ 8 Try.underlying22 hi hz0 hz1 hz2 rfl _ 0 [] rfl (own_nil w _ (Nat.le_refl _) _) w.heap.size A0 zs.length cap0 (zs.map (Value.int .u64)) rfl hn0.out (by simp) hr1 (one_cells zs) ?_ ?_ ?_ ?_))
  · unfold maxLen; omega
  · omega
  · simp
  intro v1 w1 hown1 hg1 hv1
  obtain ⟨g1, cap1, cur1, rfl, hlow1, hblk1, hn1, hsz1, htk1⟩ := own_form hown1 hv1
  have hbw1 : Below w.heap.size w w1 := hb1.grown hg1 (by simp) (by simp [Value.ownBlock])
  have hrd1 : Rd w1 w1.heap.size (some ⟨g1, 0, none⟩) (zs.map (Value.int .u64)) := hblk1.rdTake htk1 hblk1.lt
  have hlt1 := hblk1.lt
  have hnew := new_ok (some ⟨g1, 0, none⟩) cap1 zs w1 hrd1 (by omega)
  clear hown1 hg1 hv1 hs h01 hr1 hb1 hn0
  have HSZ1 : Hid (cur1.size = cap1) := hsz1
  have HTK1 : Hid (cur1.toList.take zs.length = zs.map (Value.int .u64)) := htk1
  clear hsz1 htk1
  go_wp2_with (first
    | (go_at_call 9; refine hnew.mono ?_; rintro e w2 ⟨gd, gl, rfl, hd2, hbel2⟩; have hrd2 := (hrd1.below hbel2).alloc (Nat.le_trans (Nat.le_refl _) hbel2.size) (.cells #[] 31))
    | (at_builtin; refine wpList_append_rd rfl (.tmp 24) (.tmp 25) _ rfl w2.heap.size 31 i0 _ 8 Try.underlying22 hi hz0 hz1 hz2 rfl _ 0 [] rfl (own_nil w2 _ (Nat.le_refl _) _) w1.heap.size _ zs.length cap1 (zs.map (Value.int .u64)) rfl (by simp) (by simp) hrd2 (one_cells zs) ?_ ?_ ?_ ?_))
  · unfold maxLen; omega
  · omega
  · simp
  intro v3 w3 hown3 hg3 hv3
  obtain ⟨g3, cap3, cur3, rfl, hlow3, hblk3, hn3, hsz3, htk3⟩ := own_form hown3 hv3
  have hb23 : Below w2.heap.size w2 w3 := ((Below.refl _ w2).alloc (Nat.le_refl _) _).grown hg3 (by simp) (by simp [Value.ownBlock])
  have hs12 := hbel2.size
  have hs01 := hbw1.size
  have hd3 : IsDice w3 w1.heap.size gd gl zs 0 := hd2.keep (hb23.block _ hd2.self.lt) (hb23.block _ hd2.list.lt)
  have hlgd := hd2.self.lt
  have hlgl := hd2.list.lt
  have hlowd := hd2.low
  have hlowl := hd2.lowl
  have hblk13 : Blk w3 g1 31 cur1 := (hblk1.below hbel2 hlt1).below hb23 (by omega)
  have hbw3 : Below w.heap.size w w3 := (hbw1.trans (hbel2.mono hs01)).trans (hb23.mono (by omega))
  have HSZ3 : Hid (cur3.size = cap3) := hsz3
  have HTK3 : Hid (cur3.toList.take zs.length = zs.map (Value.int .u64)) := htk3
  clear hsz3 htk3 hown3 hg3 hv3 hb23 hd2 hnew hrd1 hrd2 hblk1
  go_wp2
  go_loopw [29] (fun i wr => ∃ (j : Nat) (cur : Array Value), i = .int .i64 j ∧ j ≤ zs.length ∧ w3.grownBy wr (some g1) ∧ Blk wr g1 31 cur ∧ cur.size = cap1) (fun i _ => zs.length - (intOf i).toNat)
  case atStart => exact ⟨0, cur1, rfl, Nat.zero_le _, World.grownBy.refl _ _, hblk13, HSZ1.out⟩
  case round =>
    obtain ⟨j, cur, rfl, hj, hg, hblk, hsz⟩ := hrel
    by_cases hlt : j < zs.length
    · obtain ⟨u, hu⟩ : ∃ u, wr.cell? ⟨g1, j, none⟩ = some u := ⟨cur[j], by rw [hblk.cell]; exact Array.getElem?_eq_getElem (by omega)⟩
      have hfr : wr.frozen? ⟨g1, j, none⟩ = false := hblk.frozen j
      have HS : Hid (cur.size = cap1) := hsz
      clear hsz
      go_wp2
      go_roundw
      case rel => exact ⟨j + 1, _, by go_num, by omega, grown_trans hg (grown_set _ _ _ _), hblk.put _ _, by rw [Array.size_setIfInBounds]; exact HS.out⟩
      case measure => simp [intOf]; omega
    · have hdr : IsDice wr w1.heap.size gd gl zs 0 := hd3.keep (hg.block _ hd3.self.lt (by simp; omega)) (hg.block _ hd3.list.lt (by simp; omega))
      have hblk3r : Blk wr g3 31 cur3 := (hg.block _ hblk3.lt (by simp; omega)).trans hblk3
      have hbr : Below w.heap.size w wr := hbw3.grown hg (by have := hbw3.size; omega) (by simp; omega)
      clear hg hblk hsz hd3 hblk13 hblk3
      go_wp2
      go_loopw [38] (fun i wr => ∃ (j : Nat), i = .int .i64 j ∧ j ≤ zs.length ∧ IsDice wr w1.heap.size gd gl zs j ∧ Blk wr g3 31 cur3 ∧ Below w.heap.size w wr) (fun i _ => zs.length - (intOf i).toNat)
      case atStart => exact ⟨0, rfl, Nat.zero_le _, hdr, hblk3r, hbr⟩
      case round =>
        obtain ⟨j', rfl, hj', hd, hblk, hb⟩ := hrel
        have hnext := hd.next
        have hdd : IsDice wr.drew w1.heap.size gd gl zs j' := ⟨hd.low, hd.lowl, hd.ne, hd.self, hd.list⟩
        have hlow := hd.low
        have hne3 : gd ≠ g3 := by omega
        have hlen3 : zs.length ≤ cur3.size := by rw [HSZ3.out]; omega
        by_cases hlt' : j' < zs.length
        · have hcell : wr.cell? ⟨g3, j', none⟩ = some (.int .u64 (draw zs j')) := by
            have h := (hblk.rdTake HTK3.out hblk.lt) j' (.int .u64 (draw zs j')) (by simp [draw, hlt'])
            obtain ⟨b, off, e, _, hc⟩ := h
            cases e
            simpa using hc
          clear hlen3
          go_wp2
          go_region_with (go_at_call 12; ((with_reducible refine (next_ok wr.drew _ _ _ _ _ hdd (by omega)).mono ?_); rintro e w4 ⟨rfl, rfl⟩))
          all_goals
            clear hcell hdd
            go_wp2
            go_roundw
            case rel => exact ⟨j' + 1, by go_num, by omega, ⟨hnext.low, hnext.lowl, hnext.ne, hnext.self, hnext.list⟩, (hblk.far (p := ⟨gd, 1, none⟩) (fun e => hne3 e.symm) _), (hb.setCell (p := ⟨gd, 1, none⟩) (by simp; omega) _).drew⟩
            case measure => simp [intOf]; omega
        · have hrd : Rd wr (g3 + 1) (some ⟨g3, 0, none⟩) (zs.map (Value.int .u64)) := hblk.rdTake HTK3.out (by omega)
          have hrd' : Rd (wr.setCell ⟨gd, 1, none⟩ (.int .i64 ((j' : Int) + 1))) (g3 + 1) (some ⟨g3, 0, none⟩) (zs.map (Value.int .u64)) :=
            (hblk.far (p := ⟨gd, 1, none⟩) (fun e => hne3 e.symm) _).rdTake HTK3.out (by omega)
          obtain rfl : j' = zs.length := by omega
          clear hrd hlen3 hnext hdd
          go_wp2_with (first
            | (go_at_call 12; ((with_reducible refine (next_ok _ _ _ _ _ _ hd (by omega)).mono ?_); rintro e w4 ⟨rfl, rfl⟩))
            | (go_at_call 13; ((with_reducible refine (draw_ok _ _ _ _ _ _ hrd' (by omega)).mono ?_); rintro e w5 ⟨rfl, rfl⟩)))
          go_ret
          exact ⟨rfl, hb.setCell (p := ⟨gd, 1, none⟩) (by simp; omega) _⟩
end Go.Proofs.Ytnkpljcfmifinaa.owns

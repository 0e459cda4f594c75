/- letheref06's entryTerm. -/
import Derived.Test.YtanfjnahdnafnaaNdF
import Derived.Test.YtanfjnahdnafnaaTermC


namespace Go.Proofs.Ytanfjnahdnafnaa.nodes
set_option linter.unusedVariables false
set_option linter.unusedSimpArgs false
open Go.RowKit Go.Proofs.Ytanfjnahdnafnaa.base Go.Proofs.Ytanfjnahdnafnaa.quotas Go.Proofs.Ytanfjnahdnafnaa.vers Go.Proofs.Ytanfjnahdnafnaa.tm Go.Proofs.Ytanfjnahdnafnaa.lies Go.Proofs.Ytanfjnahdnafnaa.copies Go.Proofs.Ytanfjnahdnafnaa.makes Go.Proofs.Ytanfjnahdnafnaa.built

/-- a list of one bare term that a literal makes -/
theorem built_bare {w : World} {lo : Nat} {t : T} (h : Bare t) (hlo : lo ≤ w.heap.size) : Built lo (w.alloc (.cells (bareL [t]).toArray 38)) [t] (.slice (some ⟨w.heap.size, 0, none⟩) 1 1) := by
  refine ⟨bareL [t], ?_, fun w2 B2 _ _ => liesL_bare w2 B2 [t] (fun x hx => by rw [List.mem_singleton.1 hx]; exact h)⟩
  have := World.ownsRow_lit (base := lo) (e := 38) (size := 4) w (bareL [t]).toArray 1 hlo (by decide) (by simp [bareL, T.cells])
  simpa using this
theorem bare_num {n : Int} (h : 0 ≤ n ∧ n ≤ 9223372036854775807) : Bare (numT n) := ⟨rfl, by show (-9223372036854775808 : Int) ≤ 1 ∧ (1 : Int) ≤ 9223372036854775807; omega, by show (0 : Int) ≤ n ∧ n < 18446744073709551616; omega, Nat.zero_le _⟩
theorem bare_atom {s : ByteArray} (h : s.size ≤ maxLen) : Bare (atomT s) := ⟨rfl, by show (-9223372036854775808 : Int) ≤ 2 ∧ (2 : Int) ≤ 9223372036854775807; omega, by show (0 : Int) ≤ 0 ∧ (0 : Int) < 18446744073709551616; omega, h⟩
/-- behind entryTerm's beginning: the secret's box and the answer's -/
def Ex (w : World) (s : ByteArray) (u : Value) (wr : World) : Prop :=
  (wr.cell? ⟨w.heap.size, 0, none⟩ = some (.string s) ∧ wr.cell? ⟨w.heap.size, 1, none⟩ = some u) ∧ Blk wr (w.heap.size + 1) 38 #[.int .i64 0, .int .u64 0, .string ⟨#[]⟩, .slice none 0 0] ∧ Below w.heap.size w wr
theorem Ex.new (w : World) (s : ByteArray) (u : Value) : Ex w s u ((w.alloc (.cells #[.string s, u] 61)).alloc (.cells #[.int .i64 0, .int .u64 0, .string ⟨#[]⟩, .slice none 0 0] 38)) := by
  have k1 := (Blk.new w 61 #[.string s, u]).alloc (.cells #[.int .i64 0, .int .u64 0, .string ⟨#[]⟩, .slice none 0 0] 38)
  have k2 := Blk.new (w.alloc (.cells #[.string s, u] 61)) 38 #[.int .i64 0, .int .u64 0, .string ⟨#[]⟩, .slice none 0 0]
  rw [World.size_alloc] at k2
  exact ⟨⟨k1.cell 0, k1.cell 1⟩, k2, ((Below.refl _ _).alloc (Nat.le_refl _) _).alloc (by simp) _⟩
theorem Ex.next {w wr w' : World} {s : ByteArray} {u : Value} (h : Ex w s u wr) {B : Nat} (hB : w.heap.size + 2 ≤ B) (hb : Below B wr w') : Ex w s u w' := by
  obtain ⟨⟨a, b⟩, k, hw⟩ := h
  refine ⟨⟨?_, ?_⟩, k.below hb (by omega), hw.trans (hb.mono (by omega))⟩ <;> (rw [hb.cell (by simp; omega)]; assumption)
/-- a version's box of the call's own, and what was there -/
def Vx (w0 : World) (g : Nat) (x : V) (wr : World) : Prop := (wr.cell? ⟨g, 0, none⟩ = some (.int .i64 x.n) ∧ wr.cell? ⟨g, 1, none⟩ = some (.string x.v) ∧ wr.cell? ⟨g, 2, none⟩ = some (.string x.t)) ∧ g < wr.heap.size ∧ Below w0.heap.size w0 wr
theorem Vx.new (w : World) (x : V) : Vx w w.heap.size x (w.alloc (.cells #[.int .i64 x.n, .string x.v, .string x.t] 63)) := by
  have k := Blk.new w 63 #[.int .i64 x.n, .string x.v, .string x.t]
  exact ⟨⟨k.cell 0, k.cell 1, k.cell 2⟩, by simp, (Below.refl _ _).alloc (Nat.le_refl _) _⟩
theorem Vx.next {w0 wr w' : World} {g : Nat} {x : V} (h : Vx w0 g x wr) (hb : Below wr.heap.size wr w') : Vx w0 g x w' := by
  obtain ⟨⟨a, b, c⟩, hg, hw⟩ := h
  have hs := hb.size
  refine ⟨⟨?_, ?_, ?_⟩, by omega, hw.trans (hb.mono hw.size)⟩ <;> (rw [hb.cell (by simpa using hg)]; assumption)

theorem held_ver {w : World} {g : Nat} {x : V} (hb : Blk w g 38 #[.int .i64 1, .int .u64 x.n, .string ⟨#[]⟩, .slice none 0 0, .int .i64 2, .int .u64 0, .string x.v, .slice none 0 0, .int .i64 2, .int .u64 0, .string x.t, .slice none 0 0]) (hn : 0 ≤ x.n) (hf : x.fits) : Held w g w.heap.size (verT x).l (.slice (some ⟨g, 0, none⟩) 3 3) := by
  refine held_bare (l := [numT x.n, atomT x.v, atomT x.t]) hb (Nat.le_refl _) ?_ (by simp)
  intro t ht
  simp at ht
  rcases ht with rfl | rfl | rfl
  · exact bare_num ⟨hn, hf.1.2⟩
  · exact bare_atom hf.2.1
  · exact bare_atom hf.2.2
theorem le56 (s : ByteArray) (l : List V) {j : Nat} (hlt : j < l.length) (hl : (l.length + 2) * 56 ≤ 140737488355328) : ((atomT s :: (l.take j).map verT).length + 1) * 56 ≤ 140737488355328 := by
  have e : (atomT s :: (l.take j).map verT).length = j + 1 := by
    rw [List.length_cons, List.length_map, List.length_take]
    omega
  rw [e]
  exact Nat.le_trans (Nat.mul_le_mul_right 56 (show j + 1 + 1 ≤ l.length + 2 by omega)) hl
def EHead6 (w : World) (s : ByteArray) (l : List V) (u : Value) (v i : Value) (wr : World) : Prop :=
  ∃ j : Nat, j ≤ l.length ∧ i = .int .i64 j ∧ Built (w.heap.size + 2) wr (atomT s :: (l.take j).map verT) v ∧ Ex w s u wr ∧ w.heap.size + 2 ≤ wr.heap.size

set_option maxRecDepth 100000 in
set_option maxHeartbeats 400000 in
theorem refEntry_any (s : ByteArray) (l : List V) (A : Option Addr) (cap : Nat) (w : World) (hv : Vs w w.heap.size l A cap) (hs : s.size ≤ maxLen) (hn : ∀ x ∈ l, 0 ≤ x.n) (hl : (l.length + 2) * 56 ≤ 140737488355328) :
    Calls Try.prog 74 #[.agg #[.string s, .slice A l.length cap]] w fun e w' => ∃ A' c, e = .returned (T.val (rowT (atomT s :: l.map verT)) (.slice A' (atomT s :: l.map verT).length c)) ∧ Held w' w.heap.size w'.heap.size (atomT s :: l.map verT) (.slice A' (atomT s :: l.map verT).length c) ∧ Below w.heap.size w w' := by
  have hlen := len_in hv
  have E0 := Ex.new w s (.slice A l.length cap)
  go_enter Try.func74, Try.ntmps74
  go_wp2_with (go_at_call 100; refine (refAtom_any _ _).mono ?_; rintro e w1 ⟨rfl, hb1⟩; have E1 := E0.next (by simp) hb1; have hz1 := hb1.size; obtain ⟨⟨e0, e1⟩, kb, bw⟩ := id E1; simp only [World.size_alloc] at hz1; have lt0 : w.heap.size < w1.heap.size := by omega)
  have hB1 := built_bare (w := w1) (lo := w.heap.size + 2) (bare_atom hs) (by omega)
  have E2 := E1.next (by omega) ((Below.refl w1.heap.size w1).alloc (Nat.le_refl _) (.cells (bareL [atomT s]).toArray 38))
  clear E0 E1 hb1 e0 e1 kb bw
  go_loopw [3, 13] (fun v i wr => EHead6 w s l (.slice A l.length cap) v i wr) (fun _ i _ => l.length - (intOf i).toNat)
  case atStart => exact ⟨0, Nat.zero_le _, rfl, hB1, E2, by simp; omega⟩
  case round =>
    clear hB1 E2 lt0 hz1
    obtain ⟨j, hj, rfl, hB, hE, hz⟩ := hrel
    obtain ⟨⟨e0, e1⟩, kb, bw⟩ := id hE
    by_cases hlt : j < l.length
    · have HLE := vers.lay (le56 s l hlt hl)
      obtain ⟨bk, off, rfl, hbk, v0, v1, v2⟩ := (hv.below bw).at_ hlt
      have hfx := hv.2.2.2.2 _ (List.getElem_mem hlt)
      have hnx := hn _ (List.getElem_mem hlt)
      have htk : Hid ((l.take (j + 1)).map verT = (l.take j).map verT ++ [verT l[j]]) := vers.lay (by rw [List.take_succ_eq_append_getElem hlt, List.map_append, List.map_singleton])
      generalize l[j] = x at v0 v1 v2 hfx hnx htk
      have V0 := Vx.new wr x
      have c1 := fun wx => refNum_any x.n wx ⟨hnx, hfx.1.2⟩
      go_wp2_with fail
      obtain ⟨N, hN, hM⟩ := norms _ _ V0
      have hne : Nonempty World := ⟨w⟩
      have q0 := fun n => (hN n).1.1
      have q1 := fun n => (hN n).1.2.1
      have q2 := fun n => (hN n).1.2.2
      refine wp_region_any (by kernel_rfl) ?_
      change wpAny _ _ _ _ _ _ _ (World.drew _)
      refine wpAny_take (i := 0) (v := ?_) rfl (by kernel_rfl) (by kernel_rfl) (by kernel_rfl) (fun _ _ _ h => h) (Or.inl ⟨by rfl, ?_⟩) ?_
      rotate_left
      · intro w; go_simp; exact rfl
      refine mix.any_tail 1 10 N (by kernel_rfl) rfl (hM _ (V0.next ((Below.refl _ _).drew))) ?_
      simp only [List.take_succ_cons, List.take_zero, List.drop_succ_cons, List.drop_zero, Act.put, List.getElem_toArray, List.getElem_cons_zero, List.setIfInBounds_toArray, List.set_cons_succ, List.set_cons_zero]
      repeat (go_big_quiet_step (first
        | (go_at_call 100; exact call_cls (fun _ _ => Vx.next) hN hM (refAtom_any _ _))
        | (go_at_call 73; exact call_cls (fun _ _ => Vx.next) hN hM (c1 _))))
      refine wpQuiet_nil ?_
      rintro _ ⟨n, rfl⟩
      have V1 := hN n
      generalize N n = w2 at V1 ⊢
      clear q0 q1 q2 hM hN N n hne c1 V0
      have D2 := V1.2.2
      have hz2 := D2.size
      have hnew := Blk.new w2 38 #[.int .i64 1, .int .u64 x.n, .string ⟨#[]⟩, .slice none 0 0, .int .i64 2, .int .u64 0, .string x.v, .slice none 0 0, .int .i64 2, .int .u64 0, .string x.t, .slice none 0 0]
      have hown := fun k hk => (hB.own k hk).2
      go_wp2_with fail
      refine (refRow_any _ _ _ _).mono ?_
      rintro e w3 ⟨rfl, hb3⟩
      have D3 := (D2.alloc hz2 (.cells #[.int .i64 1, .int .u64 x.n, .string ⟨#[]⟩, .slice none 0 0, .int .i64 2, .int .u64 0, .string x.v, .slice none 0 0, .int .i64 2, .int .u64 0, .string x.t, .slice none 0 0] 38)).trans (hb3.mono (by simp; omega))
      have hB3 := hB.below D3
      have hH := held_ver (hnew.below hb3 (by simp)) hnx hfx
      have hz3 := hb3.size
      simp only [World.size_alloc] at hz3
      clear hb3 hnew D2 V1 v0 v1 v2 e0 e1 kb
      have hown2 := fun k hk => Nat.lt_of_lt_of_le (hown k hk) hz2
      have hlo2 : w.heap.size + 2 ≤ w2.heap.size := Nat.le_trans hz hz2
      have hlo3 : w.heap.size + 2 ≤ w3.heap.size := Nat.le_trans hlo2 (Nat.le_trans (Nat.le_succ _) hz3)
      have hle56 := HLE.out
      have k1 : -9223372036854775808 ≤ (verT x).k ∧ (verT x).k ≤ 9223372036854775807 := by show (-9223372036854775808 : Int) ≤ 5 ∧ (5 : Int) ≤ 9223372036854775807; decide
      have k2 : 0 ≤ (verT x).n ∧ (verT x).n < 18446744073709551616 := by show (0 : Int) ≤ 0 ∧ (0 : Int) < 18446744073709551616; decide
      have k3 : (verT x).s.size ≤ maxLen := Nat.zero_le maxLen
      go_wp2_with (at_builtin; go_loud (refine wpList_append_term rfl _ _ rfl (t := verT x) rfl hB3 rfl hlo3 hH (Nat.le_refl _) hlo2 hown2 k1 k2 k3 rfl (by simp) hle56 ?next))
      case next =>
        intro v4 w4 hB4 hb4 hz4 _
        have D4 : Below (w.heap.size + 2) wr w4 := (D3.mono hz).trans hb4
        go_wp2_with fail
        exact ⟨⟨j + 1, hlt, by go_num, by rw [htk.out]; simpa using hB4, hE.next (Nat.le_refl _) D4, by omega⟩, by simp [intOf]; omega⟩
    · have htk : l.take j = l := List.take_of_length_le (by omega)
      rw [htk] at hB
      have hlm : (atomT s :: l.map verT).length = l.length + 1 := by simp
      have hH := hB.held (by rw [hlm]; exact Nat.le_trans (Nat.mul_le_mul_right 56 (Nat.le_succ _)) hl)
      obtain ⟨A3, c3, rfl, hc3⟩ := hB.form
      clear hB htk hc3
      generalize hts : atomT s :: l.map verT = ts at hH hlm ⊢
      have HTS := vers.lay hts
      clear hts
      have lt1 := kb.lt
      have hbs := bw.size
      generalize hnt : ts.length = nt at hH ⊢
      have HNT := vers.lay hnt
      clear hnt
      go_wp2_with fail
      refine (refRow_any _ _ _ _).mono ?_
      rintro e w5 ⟨rfl, hb5⟩
      have kb2 := kb.below hb5 lt1
      have hz5 := hb5.size
      have z0 := kb2.cell 0
      have z1 := kb2.cell 1
      have z2 := kb2.cell 2
      have z3 := kb2.cell 3
      simp at z0 z1 z2 z3
      have f0 := kb2.frozen 0
      have f1 := kb2.frozen 1
      have f2 := kb2.frozen 2
      have f3 := kb2.frozen 3
      go_wp2_with fail
      refine bodyPost_ret (v := T.val (rowT ts) (.slice A3 nt c3)) (by simp [results, Try.results74, go_sem, z0, z1, z2, z3, rowT, T.k, T.n, T.s]) rfl ?_
      have hts := HTS.out
      have hnt := HNT.out
      subst hts
      subst hnt
      refine ⟨_, _, rfl, ?_, ?_⟩
      · refine hH.move (by omega) (by simp; omega) fun p p1 p2 => ?_
        rw [show (((w5.setCell ⟨w.heap.size + 1, 0, none⟩ (.int .i64 5)).setCell ⟨w.heap.size + 1, 1, none⟩ (.int .u64 0)).setCell ⟨w.heap.size + 1, 2, none⟩ (.string ⟨#[]⟩)).setCell ⟨w.heap.size + 1, 3, none⟩ (.slice A3 (atomT s :: l.map verT).length c3) = four w5 (w.heap.size + 1) 0 (.int .i64 5) (.int .u64 0) (.string ⟨#[]⟩) (.slice A3 (atomT s :: l.map verT).length c3) from rfl, four_cell _ _ _ _ _ _ _ p (by omega)]
        exact hb5.cell p2
      · exact four_below (bw.trans (hb5.mono hbs)) (by omega) _ _ _ _
end Go.Proofs.Ytanfjnahdnafnaa.nodes

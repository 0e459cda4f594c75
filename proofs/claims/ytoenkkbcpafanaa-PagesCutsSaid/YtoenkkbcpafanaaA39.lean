/- What package node's own Term answers: rows made of parts by functions that are handed on. -/
import Derived.Test.YtoenkkbcpafanaaA28
import Derived.Test.YtoenkkbcpafanaaA38


namespace Go.Proofs.Ytoenkkbcpafanaa.nodes
set_option linter.unusedVariables false
set_option linter.unusedSimpArgs false
open Go.RowKit Go.Proofs.Ytoenkkbcpafanaa.base Go.Proofs.Ytoenkkbcpafanaa.quotas Go.Proofs.Ytoenkkbcpafanaa.vers Go.Proofs.Ytoenkkbcpafanaa.tm Go.Proofs.Ytoenkkbcpafanaa.lies Go.Proofs.Ytoenkkbcpafanaa.copies Go.Proofs.Ytoenkkbcpafanaa.makes Go.Proofs.Ytoenkkbcpafanaa.built

theorem held_S {w : World} {lo hi : Nat} {l : List T} {A : Option Addr} {n c : Nat} (h : Held w lo hi l (.slice A n c)) (hi2 : hi ≤ w.heap.size) : LiesS w w.heap.size l A c := by
  obtain ⟨A1, c1, e, h1, h2, hh⟩ := h
  cases e
  obtain ⟨xs, hr, hL⟩ := hh w w.heap.size hi2 fun _ _ _ => rfl
  exact ⟨xs, h1, h2, hr, hL⟩
theorem ofN_any (l : List T) (n : Nat) (hn : l.length = n) (A : Option Addr) (c B : Nat) (w : World) (h : LiesS w B l A c) (hB : B ≤ w.heap.size) :
    Calls Try.prog 250 #[.slice A n c] w fun e w' => ∃ A' c', e = .returned (.agg #[.int .i64 5, .int .u64 0, .string ⟨#[]⟩, .slice A' n c']) ∧ Held w' w.heap.size w'.heap.size l (.slice A' n c') ∧ Below w.heap.size w w' := by
  subst hn
  exact makes.of_any l A c B w h hB
/-- a term's own numbers are such as a machine has -/
def FitsT (t : T) : Prop := (-9223372036854775808 ≤ t.k ∧ t.k ≤ 9223372036854775807) ∧ (0 ≤ t.n ∧ t.n < 18446744073709551616) ∧ t.s.size ≤ maxLen
theorem fits_row (l : List T) : FitsT (rowT l) := ⟨by show (-9223372036854775808 : Int) ≤ 5 ∧ (5 : Int) ≤ 9223372036854775807; decide, by show (0 : Int) ≤ 0 ∧ (0 : Int) < 18446744073709551616; decide, Nat.zero_le maxLen⟩
/-- the answer's own box, and what was there -/
def Rx (w : World) (g : Nat) (wr : World) : Prop := Blk wr g 273 #[.int .i64 0, .int .u64 0, .string ⟨#[]⟩, .slice none 0 0] ∧ Below w.heap.size w wr
theorem Rx.next {w wr w' : World} {g B : Nat} (h : Rx w g wr) (hB : w.heap.size ≤ B) (hg : g < B) (hb : Below B wr w') : Rx w g w' := ⟨h.1.below hb hg, h.2.trans (hb.mono hB)⟩

set_option maxRecDepth 100000 in
set_option maxHeartbeats 1000000 in
theorem ownNum_any (n : Int) (w : World) (h : 0 ≤ n ∧ n ≤ 9223372036854775807) :
    Calls Try.prog 251 #[.int .i64 n] w fun e w' => e = .returned (.agg #[.int .i64 1, .int .u64 n, .string ⟨#[]⟩, .slice none 0 0]) ∧ Below w.heap.size w w' := by
  have hw : IntKind.u64.wrap n = n := by rw [IntKind.wrap_u64]; omega
  have hbk := Blk.new w 273 #[.int .i64 0, .int .u64 0, .string ⟨#[]⟩, .slice none 0 0]
  have b0 : Below w.heap.size w (w.alloc (.cells #[.int .i64 0, .int .u64 0, .string ⟨#[]⟩, .slice none 0 0] 273)) := (Below.refl _ _).alloc (Nat.le_refl _) _
  go_enter Try.func251, Try.ntmps251
  go_wp2_with (go_at_call 245; refine (makes.num_any _ _).mono ?_; rintro e w1 ⟨rfl, hb⟩; have kb2 := hbk.below hb (by simp); have z0 := kb2.cell 0; have z1 := kb2.cell 1; have z2 := kb2.cell 2; have z3 := kb2.cell 3; simp at z0 z1 z2 z3; have f0 := kb2.frozen 0; have f1 := kb2.frozen 1; have f2 := kb2.frozen 2; have f3 := kb2.frozen 3)
  have b1 := b0.trans (hb.mono b0.size)
  refine bodyPost_ret (v := .agg #[.int .i64 1, .int .u64 n, .string ⟨#[]⟩, .slice none 0 0]) (by simp [results, Try.results251, go_sem, z0, z1, z2, z3, hw]) rfl ⟨rfl, ?_⟩
  exact copies.four_below b1 (Nat.le_refl _) _ _ _ _

/-- a version's box and the answer's -/
def Wx (w : World) (x : V) (wr : World) : Prop :=
  (wr.cell? ⟨w.heap.size, 0, none⟩ = some (.int .i64 x.n) ∧ wr.cell? ⟨w.heap.size, 1, none⟩ = some (.string x.v) ∧ wr.cell? ⟨w.heap.size, 2, none⟩ = some (.string x.t)) ∧ Blk wr (w.heap.size + 1) 273 #[.int .i64 0, .int .u64 0, .string ⟨#[]⟩, .slice none 0 0] ∧ Below w.heap.size w wr
theorem Wx.new (w : World) (x : V) : Wx w x ((w.alloc (.cells #[.int .i64 x.n, .string x.v, .string x.t] 180)).alloc (.cells #[.int .i64 0, .int .u64 0, .string ⟨#[]⟩, .slice none 0 0] 273)) := by
  have k1 := (Blk.new w 180 #[.int .i64 x.n, .string x.v, .string x.t]).alloc (.cells #[.int .i64 0, .int .u64 0, .string ⟨#[]⟩, .slice none 0 0] 273)
  have k2 := Blk.new (w.alloc (.cells #[.int .i64 x.n, .string x.v, .string x.t] 180)) 273 #[.int .i64 0, .int .u64 0, .string ⟨#[]⟩, .slice none 0 0]
  rw [World.size_alloc] at k2
  exact ⟨⟨k1.cell 0, k1.cell 1, k1.cell 2⟩, k2, ((Below.refl _ _).alloc (Nat.le_refl _) _).alloc (by simp) _⟩
theorem Wx.next {w wr w' : World} {x : V} (h : Wx w x wr) (hb : Below wr.heap.size wr w') : Wx w x w' := by
  obtain ⟨⟨a, b, c⟩, k, hw⟩ := h
  have hlt := k.lt
  refine ⟨⟨?_, ?_, ?_⟩, k.below hb hlt, hw.trans (hb.mono hw.size)⟩ <;> (rw [hb.cell (by simp; omega)]; assumption)

set_option maxRecDepth 100000 in
set_option maxHeartbeats 1000000 in
theorem mkV_any (x : V) (w : World) (hf : x.fits) (hn : 0 ≤ x.n) :
    Calls Try.prog 249 #[.agg #[.int .i64 x.n, .string x.v, .string x.t]] w (TAns w (verT x)) := by
  have K0 := Wx.new w x
  have c1 := fun wr => ownNum_any x.n wr ⟨hn, hf.1.2⟩
  have hbare : ∀ t ∈ [numT x.n, atomT x.v, atomT x.t], Bare t := by
    intro t ht
    simp at ht
    rcases ht with rfl | rfl | rfl
    · exact bare_num ⟨hn, hf.1.2⟩
    · exact bare_atom hf.2.1
    · exact bare_atom hf.2.2
  go_enter Try.func249, Try.ntmps249
  go_wp2_with fail
  obtain ⟨N, hN, hM⟩ := norms _ _ K0
  have hne : Nonempty World := ⟨w⟩
  have q0 := fun n => (hN n).1.1
  have q1 := fun n => (hN n).1.2.1
  have q2 := fun n => (hN n).1.2.2
  refine mix.region_tail 9 N (by kernel_rfl) (by kernel_rfl) (hM _ (K0.next ((Below.refl _ _).drew))) ?_
  simp only [List.take_succ_cons, List.take_zero, List.drop_succ_cons, List.drop_zero]
  repeat (go_big_quiet_step (first
    | (go_at_call 248; exact call_cls (fun _ _ => Wx.next) hN hM (makes.atom_any _ _))
    | (go_at_call 251; exact call_cls (fun _ _ => Wx.next) hN hM (c1 _))))
  refine wpQuiet_nil ?_
  rintro _ ⟨n, rfl⟩
  have K1 := hN n
  generalize N n = w1 at K1 ⊢
  clear hM hN N n hne K0 q0 q1 q2 c1
  obtain ⟨_, kb, bw⟩ := K1
  have lt1 := kb.lt
  have hbs := bw.size
  have hnew := Blk.new w1 273 (bareL [numT x.n, atomT x.v, atomT x.t]).toArray
  have D1 : Below w1.heap.size w1 (w1.alloc (.cells (bareL [numT x.n, atomT x.v, atomT x.t]).toArray 273)) := (Below.refl _ _).alloc (Nat.le_refl _) _
  have b2 := bw.trans (D1.mono hbs)
  have hof := ofN_any [numT x.n, atomT x.v, atomT x.t] 3 rfl (some ⟨w1.heap.size, 0, none⟩) 3 _ (w1.alloc (.cells (bareL [numT x.n, atomT x.v, atomT x.t]).toArray 273)) (held_S (held_bare (lo := w1.heap.size) (l := [numT x.n, atomT x.v, atomT x.t]) hnew (Nat.le_refl _) hbare (by simp)) (Nat.le_refl _)) (Nat.le_refl _)
  have kb1 := kb.alloc (.cells (bareL [numT x.n, atomT x.v, atomT x.t]).toArray 273)
  clear hnew hbare
  go_wp2_with (go_at_call 250; refine hof.mono ?_; rintro e w2 ⟨A2, c2, rfl, hH, hb2⟩; have kb2 := kb1.below hb2 (by simp; omega); have z0 := kb2.cell 0; have z1 := kb2.cell 1; have z2 := kb2.cell 2; have z3 := kb2.cell 3; simp at z0 z1 z2 z3; have f0 := kb2.frozen 0; have f1 := kb2.frozen 1; have f2 := kb2.frozen 2; have f3 := kb2.frozen 3)
  have hz2 := hb2.size
  refine bodyPost_ret (v := T.val (rowT [numT x.n, atomT x.v, atomT x.t]) (.slice A2 3 c2)) (by simp [results, Try.results249, go_sem, z0, z1, z2, z3, rowT, T.k, T.n, T.s]) rfl ⟨A2, c2, rfl, ?_, ?_⟩
  · refine hH.move (by simp; omega) (by simp) fun p p1 p2 => copies.four_cell w2 (w.heap.size + 1) 0 _ _ _ _ p (by simp at p1; omega)
  · exact copies.four_below (b2.trans (hb2.mono b2.size)) (by omega) _ _ _ _

set_option maxRecDepth 100000 in
set_option maxHeartbeats 1000000 in
theorem rowV_any (k0 n0 : Int) (s0 : ByteArray) (hb0 : Bare (.mk k0 n0 s0 [])) (l : List V) (A : Option Addr) (cap : Nat) (w : World) (hv : Vs w w.heap.size l A cap) (h4 : l.length ≤ 4) (hn : ∀ x ∈ l, 0 ≤ x.n) :
    Calls Try.prog 247 #[.agg #[.int .i64 k0, .int .u64 n0, .string s0, .slice none 0 0], .slice A l.length cap, .func (.func 249) #[] #[]] w (TAns w (rowT (.mk k0 n0 s0 [] :: l.map verT))) := by
  have hR : Rx w (w.heap.size + 1) ((w.alloc (.cells #[.int .i64 k0, .int .u64 n0, .string s0, .slice none 0 0] 273)).alloc (.cells #[.int .i64 0, .int .u64 0, .string ⟨#[]⟩, .slice none 0 0] 273)) := by
    have k2 := Blk.new (w.alloc (.cells #[.int .i64 k0, .int .u64 n0, .string s0, .slice none 0 0] 273)) 273 #[.int .i64 0, .int .u64 0, .string ⟨#[]⟩, .slice none 0 0]
    rw [World.size_alloc] at k2
    exact ⟨k2, ((Below.refl _ _).alloc (Nat.le_refl _) _).alloc (by simp) _⟩
  go_enter Try.func247, Try.ntmps247
  go_wp2_with fail
  have hB1 := built_bare (w := (w.alloc (.cells #[.int .i64 k0, .int .u64 n0, .string s0, .slice none 0 0] 273)).alloc (.cells #[.int .i64 0, .int .u64 0, .string ⟨#[]⟩, .slice none 0 0] 273)) (lo := w.heap.size + 2) hb0 (by simp)
  have E2 := hR.next (B := w.heap.size + 2) (by omega) (by omega) ((Below.refl _ _).alloc (by simp) (.cells (bareL [T.mk k0 n0 s0 []]).toArray 273))
  clear hR
  go_loopw [7, 14] (fun v i wr => ∃ j : Nat, j ≤ l.length ∧ i = .int .i64 j ∧ Built (w.heap.size + 2) wr (.mk k0 n0 s0 [] :: (l.take j).map verT) v ∧ Rx w (w.heap.size + 1) wr ∧ w.heap.size + 2 ≤ wr.heap.size) (fun _ i _ => l.length - (intOf i).toNat)
  case atStart => exact ⟨0, Nat.zero_le _, rfl, by simpa [bareL, T.cells, T.k, T.n, T.s] using hB1, E2, by simp⟩
  case round =>
    clear hB1 E2
    obtain ⟨j, hj, rfl, hB, hE, hz⟩ := hrel
    obtain ⟨kb, bw⟩ := id hE
    by_cases hlt : j < l.length
    · obtain ⟨bk, off, rfl, hbk, v0, v1, v2⟩ := (hv.below bw).at_ hlt
      have hc := mkV_any l[j] (wr.alloc (.cells #[.int .i64 l[j].n, .string l[j].v, .string l[j].t] 180)) (hv.2.2.2.2 _ (List.getElem_mem hlt)) (hn _ (List.getElem_mem hlt))
      have hF : FitsT (verT l[j]) := fits_row _
      have htk : Hid ((l.take (j + 1)).map verT = (l.take j).map verT ++ [verT l[j]]) := vers.lay (by rw [List.take_succ_eq_append_getElem hlt, List.map_append, List.map_singleton])
      have hown := fun k hk => (hB.own k hk).2
      have hlen56 : Hid (((T.mk k0 n0 s0 [] :: (l.take j).map verT).length + 1) * 56 ≤ 140737488355328) := vers.lay (len5 (by rw [List.length_cons, List.length_map, List.length_take]; omega))
      have D1 : Below wr.heap.size wr (wr.alloc (.cells #[.int .i64 l[j].n, .string l[j].v, .string l[j].t] 180)) := (Below.refl _ _).alloc (Nat.le_refl _) _
      generalize verT l[j] = t at hc hF htk
      obtain ⟨tk, tn, ts, tl⟩ := t
      obtain ⟨k1, k2, k3⟩ := hF
      clear hv
      go_wp2_with fail
      refine hc.mono ?_
      rintro e w3 ⟨A3, c3, rfl, hH, hb3⟩
      simp only [T.val, T.k, T.n, T.s, T.l] at hH k1 k2 k3 ⊢
      have D3 := D1.trans (hb3.mono D1.size)
      have hB3 := hB.below D3
      have hz3 := D3.size
      have hlo3 : w.heap.size + 2 ≤ w3.heap.size := Nat.le_trans hz hz3
      have hz4 := hb3.size
      simp only [World.size_alloc] at hz4 hH
      have hlo2 : w.heap.size + 2 ≤ wr.heap.size + 1 := Nat.le_succ_of_le hz
      have hown2 := fun k hk => Nat.lt_succ_of_lt (hown k hk)
      have hle56 := hlen56.out
      clear hc D1 hlen56
      go_wp2_with (at_builtin; go_loud (refine wpList_append_term rfl _ _ rfl (t := T.mk tk tn ts tl) rfl hB3 rfl hlo3 hH (Nat.le_refl _) hlo2 hown2 k1 k2 k3 rfl (by simp) hle56 ?next))
      case next =>
        intro v4 w4 hB4 hb4 hz5 _
        have D4 : Below (w.heap.size + 2) wr w4 := (D3.mono hz).trans hb4
        go_wp2_with fail
        exact ⟨⟨j + 1, hlt, by go_num, by rw [htk.out]; simpa using hB4, hE.next (by omega) (by omega) D4, by omega⟩, by simp [intOf]; omega⟩
    · have htk : l.take j = l := List.take_of_length_le (by omega)
      rw [htk] at hB
      have hlm : (T.mk k0 n0 s0 [] :: l.map verT).length = l.length + 1 := by simp
      have hH := hB.held (by rw [hlm]; exact len5 (by omega))
      obtain ⟨A3, c3, rfl, hc3⟩ := hB.form
      clear hB htk hc3
      have HL := vers.lay hlm
      clear hlm
      generalize hts : T.mk k0 n0 s0 [] :: l.map verT = ts at hH HL ⊢
      have lt1 := kb.lt
      have hbs := bw.size
      have hof := ofN_any ts _ rfl A3 c3 _ wr (held_S hH (Nat.le_refl _)) (Nat.le_refl _)
      generalize hnt : ts.length = nt at hof ⊢
      have HNT := vers.lay hnt
      have HTS := vers.lay hts
      clear hnt hH hts
      go_wp2_with (go_at_call 250; refine hof.mono ?_; rintro e w5 ⟨A5, c5, rfl, hH, hb5⟩; have kb2 := kb.below hb5 lt1; have z0 := kb2.cell 0; have z1 := kb2.cell 1; have z2 := kb2.cell 2; have z3 := kb2.cell 3; simp at z0 z1 z2 z3; have f0 := kb2.frozen 0; have f1 := kb2.frozen 1; have f2 := kb2.frozen 2; have f3 := kb2.frozen 3)
      have hz5 := hb5.size
      refine bodyPost_ret (v := T.val (rowT ts) (.slice A5 nt c5)) (by simp [results, Try.results247, go_sem, z0, z1, z2, z3, rowT, T.k, T.n, T.s]) rfl ?_
      have hnt := HNT.out
      have hts := HTS.out
      subst hnt
      subst hts
      refine ⟨A5, c5, rfl, ?_, ?_⟩
      · refine hH.move (by omega) (by simp) fun p p1 p2 => copies.four_cell w5 (w.heap.size + 1) 0 _ _ _ _ p (by omega)
      · exact copies.four_below (bw.trans (hb5.mono hbs)) (by omega) _ _ _ _

/-- a kid's box, the answer's and the reference's -/
def Ux (w : World) (x : K) (wr : World) : Prop :=
  (wr.cell? ⟨w.heap.size, 0, none⟩ = some (.string x.s) ∧ wr.cell? ⟨w.heap.size + 2, 0, none⟩ = some (.int .u64 (x.k : Int)) ∧ wr.cell? ⟨w.heap.size + 2, 1, none⟩ = some (.int .i64 x.g) ∧ wr.cell? ⟨w.heap.size + 2, 2, none⟩ = some (.int .i64 x.o) ∧ wr.cell? ⟨w.heap.size + 2, 3, none⟩ = some (.int .i64 x.n) ∧ w.heap.size + 2 < wr.heap.size) ∧ Blk wr (w.heap.size + 1) 273 #[.int .i64 0, .int .u64 0, .string ⟨#[]⟩, .slice none 0 0] ∧ Below w.heap.size w wr
theorem Ux.new (w : World) (x : K) : Ux w x (((w.alloc (.cells #[.string x.s, .int .u64 (x.k : Int), .int .i64 x.g, .int .i64 x.o, .int .i64 x.n] 162)).alloc (.cells #[.int .i64 0, .int .u64 0, .string ⟨#[]⟩, .slice none 0 0] 273)).alloc (.cells #[.int .u64 (x.k : Int), .int .i64 x.g, .int .i64 x.o, .int .i64 x.n] 27)) := by
  have k1 := ((Blk.new w 162 #[.string x.s, .int .u64 (x.k : Int), .int .i64 x.g, .int .i64 x.o, .int .i64 x.n]).alloc (.cells #[.int .i64 0, .int .u64 0, .string ⟨#[]⟩, .slice none 0 0] 273)).alloc (.cells #[.int .u64 (x.k : Int), .int .i64 x.g, .int .i64 x.o, .int .i64 x.n] 27)
  have k2 := (Blk.new (w.alloc (.cells #[.string x.s, .int .u64 (x.k : Int), .int .i64 x.g, .int .i64 x.o, .int .i64 x.n] 162)) 273 #[.int .i64 0, .int .u64 0, .string ⟨#[]⟩, .slice none 0 0]).alloc (.cells #[.int .u64 (x.k : Int), .int .i64 x.g, .int .i64 x.o, .int .i64 x.n] 27)
  have k3 := Blk.new ((w.alloc (.cells #[.string x.s, .int .u64 (x.k : Int), .int .i64 x.g, .int .i64 x.o, .int .i64 x.n] 162)).alloc (.cells #[.int .i64 0, .int .u64 0, .string ⟨#[]⟩, .slice none 0 0] 273)) 27 #[.int .u64 (x.k : Int), .int .i64 x.g, .int .i64 x.o, .int .i64 x.n]
  simp only [World.size_alloc] at k2 k3
  exact ⟨⟨k1.cell 0, k3.cell 0, k3.cell 1, k3.cell 2, k3.cell 3, by simp⟩, k2, (((Below.refl _ _).alloc (Nat.le_refl _) _).alloc (by simp) _).alloc (by simp; omega) _⟩
theorem Ux.next {w wr w' : World} {x : K} (h : Ux w x wr) (hb : Below wr.heap.size wr w') : Ux w x w' := by
  obtain ⟨⟨a, b, c, d, e, hl⟩, k, hw⟩ := h
  have hlt := k.lt
  have hs := hb.size
  refine ⟨⟨?_, ?_, ?_, ?_, ?_, by omega⟩, k.below hb hlt, hw.trans (hb.mono hw.size)⟩ <;> (rw [hb.cell (by simp; omega)]; assumption)

set_option maxRecDepth 100000 in
set_option maxHeartbeats 1000000 in
theorem mkK_any (x : K) (w : World) (hf : x.fits) (hr : refOk x.g x.o x.n) :
    Calls Try.prog 253 #[.agg #[.string x.s, .int .u64 (x.k : Int), .int .i64 x.g, .int .i64 x.o, .int .i64 x.n]] w (TAns w (kidT x)) := by
  obtain ⟨⟨r1, r2⟩, ⟨r3, r4⟩, r5, r6⟩ := hr
  obtain ⟨f1, f2, f3, f4, f5⟩ := hf
  have K0 := Ux.new w x
  have c1 := fun wr => ownNum_any x.g wr ⟨r1, by omega⟩
  have c2 := fun wr => ownNum_any x.o wr ⟨r3, by omega⟩
  have c3 := fun wr => ownNum_any x.n wr ⟨by omega, by omega⟩
  have hbare : ∀ t ∈ [atomT x.s, keyT x.k, numT x.g, numT x.o, numT x.n], Bare t := by
    intro t ht
    simp at ht
    rcases ht with rfl | rfl | rfl | rfl | rfl
    · exact bare_atom f1
    · exact ⟨rfl, by show (-9223372036854775808 : Int) ≤ 3 ∧ (3 : Int) ≤ 9223372036854775807; omega, by show (0 : Int) ≤ (x.k : Int) ∧ (x.k : Int) < 18446744073709551616; omega, Nat.zero_le _⟩
    · exact bare_num ⟨r1, by omega⟩
    · exact bare_num ⟨r3, by omega⟩
    · exact bare_num ⟨by omega, by omega⟩
  clear r1 r2 r3 r4 r5 r6 f1 f2 f3 f4 f5
  go_enter Try.func253, Try.ntmps253
  go_wp2_with fail
  obtain ⟨N, hN, hM⟩ := norms _ _ K0
  have hne : Nonempty World := ⟨w⟩
  have q0 := fun n => (hN n).1.1
  have q1 := fun n => (hN n).1.2.1
  have q2 := fun n => (hN n).1.2.2.1
  have q3 := fun n => (hN n).1.2.2.2.1
  have q4 := fun n => (hN n).1.2.2.2.2.1
  have q5 := fun n => (hN n).1.2.2.2.2.2
  refine mix.region_tail 15 N (by kernel_rfl) (by kernel_rfl) (hM _ (K0.next ((Below.refl _ _).drew))) ?_
  simp only [List.take_succ_cons, List.take_zero, List.drop_succ_cons, List.drop_zero]
  repeat (go_big_quiet_step (first
    | (go_at_call 248; exact call_cls (fun _ _ => Ux.next) hN hM (makes.atom_any _ _))
    | (go_at_call 254; exact call_cls (fun _ _ => Ux.next) hN hM (makes.key_any _ _))
    | (go_at_call 251; exact call_cls (fun _ _ => Ux.next) hN hM (by first | exact c1 _ | exact c2 _ | exact c3 _))))
  refine wpQuiet_nil ?_
  rintro _ ⟨n, rfl⟩
  have K1 := hN n
  generalize N n = w1 at K1 ⊢
  clear hM hN N n hne K0 q0 q1 q2 q3 q4 q5 c1 c2 c3
  obtain ⟨_, kb, bw⟩ := K1
  have lt1 := kb.lt
  have hbs := bw.size
  have hnew := Blk.new w1 273 (bareL [atomT x.s, keyT x.k, numT x.g, numT x.o, numT x.n]).toArray
  have D1 : Below w1.heap.size w1 (w1.alloc (.cells (bareL [atomT x.s, keyT x.k, numT x.g, numT x.o, numT x.n]).toArray 273)) := (Below.refl _ _).alloc (Nat.le_refl _) _
  have b2 := bw.trans (D1.mono hbs)
  have hof := ofN_any [atomT x.s, keyT x.k, numT x.g, numT x.o, numT x.n] 5 rfl (some ⟨w1.heap.size, 0, none⟩) 5 _ (w1.alloc (.cells (bareL [atomT x.s, keyT x.k, numT x.g, numT x.o, numT x.n]).toArray 273)) (held_S (held_bare (lo := w1.heap.size) (l := [atomT x.s, keyT x.k, numT x.g, numT x.o, numT x.n]) hnew (Nat.le_refl _) hbare (by simp)) (Nat.le_refl _)) (Nat.le_refl _)
  have kb1 := kb.alloc (.cells (bareL [atomT x.s, keyT x.k, numT x.g, numT x.o, numT x.n]).toArray 273)
  clear hnew hbare
  go_wp2_with (go_at_call 250; refine hof.mono ?_; rintro e w2 ⟨A2, c2, rfl, hH, hb2⟩; have kb2 := kb1.below hb2 (by simp; omega); have z0 := kb2.cell 0; have z1 := kb2.cell 1; have z2 := kb2.cell 2; have z3 := kb2.cell 3; simp at z0 z1 z2 z3; have f0 := kb2.frozen 0; have f1 := kb2.frozen 1; have f2 := kb2.frozen 2; have f3 := kb2.frozen 3)
  have hz2 := hb2.size
  refine bodyPost_ret (v := T.val (rowT [atomT x.s, keyT x.k, numT x.g, numT x.o, numT x.n]) (.slice A2 5 c2)) (by simp [results, Try.results253, go_sem, z0, z1, z2, z3, rowT, T.k, T.n, T.s]) rfl ⟨A2, c2, rfl, ?_, ?_⟩
  · refine hH.move (by simp; omega) (by simp) fun p p1 p2 => copies.four_cell w2 (w.heap.size + 1) 0 _ _ _ _ p (by simp at p1; omega)
  · exact copies.four_below (b2.trans (hb2.mono b2.size)) (by omega) _ _ _ _

set_option maxRecDepth 100000 in
set_option maxHeartbeats 1000000 in
theorem rowK_any (k0 n0 : Int) (s0 : ByteArray) (hb0 : Bare (.mk k0 n0 s0 [])) (l : List K) (A : Option Addr) (cap : Nat) (w : World) (hv : Ks w w.heap.size l A cap) (h4 : l.length ≤ 4) (hn : ∀ x ∈ l, refOk x.g x.o x.n) :
    Calls Try.prog 252 #[.agg #[.int .i64 k0, .int .u64 n0, .string s0, .slice none 0 0], .slice A l.length cap, .func (.func 253) #[] #[]] w (TAns w (rowT (.mk k0 n0 s0 [] :: l.map kidT))) := by
  have hR : Rx w (w.heap.size + 1) ((w.alloc (.cells #[.int .i64 k0, .int .u64 n0, .string s0, .slice none 0 0] 273)).alloc (.cells #[.int .i64 0, .int .u64 0, .string ⟨#[]⟩, .slice none 0 0] 273)) := by
    have k2 := Blk.new (w.alloc (.cells #[.int .i64 k0, .int .u64 n0, .string s0, .slice none 0 0] 273)) 273 #[.int .i64 0, .int .u64 0, .string ⟨#[]⟩, .slice none 0 0]
    rw [World.size_alloc] at k2
    exact ⟨k2, ((Below.refl _ _).alloc (Nat.le_refl _) _).alloc (by simp) _⟩
  go_enter Try.func252, Try.ntmps252
  go_wp2_with fail
  have hB1 := built_bare (w := (w.alloc (.cells #[.int .i64 k0, .int .u64 n0, .string s0, .slice none 0 0] 273)).alloc (.cells #[.int .i64 0, .int .u64 0, .string ⟨#[]⟩, .slice none 0 0] 273)) (lo := w.heap.size + 2) hb0 (by simp)
  have E2 := hR.next (B := w.heap.size + 2) (by omega) (by omega) ((Below.refl _ _).alloc (by simp) (.cells (bareL [T.mk k0 n0 s0 []]).toArray 273))
  clear hR
  go_loopw [7, 14] (fun v i wr => ∃ j : Nat, j ≤ l.length ∧ i = .int .i64 j ∧ Built (w.heap.size + 2) wr (.mk k0 n0 s0 [] :: (l.take j).map kidT) v ∧ Rx w (w.heap.size + 1) wr ∧ w.heap.size + 2 ≤ wr.heap.size) (fun _ i _ => l.length - (intOf i).toNat)
  case atStart => exact ⟨0, Nat.zero_le _, rfl, by simpa [bareL, T.cells, T.k, T.n, T.s] using hB1, E2, by simp⟩
  case round =>
    clear hB1 E2
    obtain ⟨j, hj, rfl, hB, hE, hz⟩ := hrel
    obtain ⟨kb, bw⟩ := id hE
    by_cases hlt : j < l.length
    · obtain ⟨bk, off, rfl, hbk, v0, v1, v2, v3, v4⟩ := (hv.below bw).at_ hlt
      have hc := mkK_any l[j] (wr.alloc (.cells #[.string l[j].s, .int .u64 (l[j].k : Int), .int .i64 l[j].g, .int .i64 l[j].o, .int .i64 l[j].n] 162)) (hv.2.2.2.2 _ (List.getElem_mem hlt)) (hn _ (List.getElem_mem hlt))
      have hF : FitsT (kidT l[j]) := fits_row _
      have htk : Hid ((l.take (j + 1)).map kidT = (l.take j).map kidT ++ [kidT l[j]]) := vers.lay (by rw [List.take_succ_eq_append_getElem hlt, List.map_append, List.map_singleton])
      have hown := fun k hk => (hB.own k hk).2
      have hlen56 : Hid (((T.mk k0 n0 s0 [] :: (l.take j).map kidT).length + 1) * 56 ≤ 140737488355328) := vers.lay (len5 (by rw [List.length_cons, List.length_map, List.length_take]; omega))
      have D1 : Below wr.heap.size wr (wr.alloc (.cells #[.string l[j].s, .int .u64 (l[j].k : Int), .int .i64 l[j].g, .int .i64 l[j].o, .int .i64 l[j].n] 162)) := (Below.refl _ _).alloc (Nat.le_refl _) _
      generalize kidT l[j] = t at hc hF htk
      obtain ⟨tk, tn, ts, tl⟩ := t
      obtain ⟨k1, k2, k3⟩ := hF
      clear hv
      go_wp2_with fail
      refine hc.mono ?_
      rintro e w3 ⟨A3, c3, rfl, hH, hb3⟩
      simp only [T.val, T.k, T.n, T.s, T.l] at hH k1 k2 k3 ⊢
      have D3 := D1.trans (hb3.mono D1.size)
      have hB3 := hB.below D3
      have hz3 := D3.size
      have hlo3 : w.heap.size + 2 ≤ w3.heap.size := Nat.le_trans hz hz3
      have hz4 := hb3.size
      simp only [World.size_alloc] at hz4 hH
      have hlo2 : w.heap.size + 2 ≤ wr.heap.size + 1 := Nat.le_succ_of_le hz
      have hown2 := fun k hk => Nat.lt_succ_of_lt (hown k hk)
      have hle56 := hlen56.out
      clear hc D1 hlen56
      go_wp2_with (at_builtin; go_loud (refine wpList_append_term rfl _ _ rfl (t := T.mk tk tn ts tl) rfl hB3 rfl hlo3 hH (Nat.le_refl _) hlo2 hown2 k1 k2 k3 rfl (by simp) hle56 ?next))
      case next =>
        intro v4 w4 hB4 hb4 hz5 _
        have D4 : Below (w.heap.size + 2) wr w4 := (D3.mono hz).trans hb4
        go_wp2_with fail
        exact ⟨⟨j + 1, hlt, by go_num, by rw [htk.out]; simpa using hB4, hE.next (by omega) (by omega) D4, by omega⟩, by simp [intOf]; omega⟩
    · have htk : l.take j = l := List.take_of_length_le (by omega)
      rw [htk] at hB
      have hlm : (T.mk k0 n0 s0 [] :: l.map kidT).length = l.length + 1 := by simp
      have hH := hB.held (by rw [hlm]; exact len5 (by omega))
      obtain ⟨A3, c3, rfl, hc3⟩ := hB.form
      clear hB htk hc3
      have HL := vers.lay hlm
      clear hlm
      generalize hts : T.mk k0 n0 s0 [] :: l.map kidT = ts at hH HL ⊢
      have lt1 := kb.lt
      have hbs := bw.size
      have hof := ofN_any ts _ rfl A3 c3 _ wr (held_S hH (Nat.le_refl _)) (Nat.le_refl _)
      generalize hnt : ts.length = nt at hof ⊢
      have HNT := vers.lay hnt
      have HTS := vers.lay hts
      clear hnt hH hts
      go_wp2_with (go_at_call 250; refine hof.mono ?_; rintro e w5 ⟨A5, c5, rfl, hH, hb5⟩; have kb2 := kb.below hb5 lt1; have z0 := kb2.cell 0; have z1 := kb2.cell 1; have z2 := kb2.cell 2; have z3 := kb2.cell 3; simp at z0 z1 z2 z3; have f0 := kb2.frozen 0; have f1 := kb2.frozen 1; have f2 := kb2.frozen 2; have f3 := kb2.frozen 3)
      have hz5 := hb5.size
      refine bodyPost_ret (v := T.val (rowT ts) (.slice A5 nt c5)) (by simp [results, Try.results252, go_sem, z0, z1, z2, z3, rowT, T.k, T.n, T.s]) rfl ?_
      have hnt := HNT.out
      have hts := HTS.out
      subst hnt
      subst hts
      refine ⟨A5, c5, rfl, ?_, ?_⟩
      · refine hH.move (by omega) (by simp) fun p p1 p2 => copies.four_cell w5 (w.heap.size + 1) 0 _ _ _ _ p (by omega)
      · exact copies.four_below (bw.trans (hb5.mono hbs)) (by omega) _ _ _ _

/-- a class: what is known of boxes, and that they are there -/
def Sz (P : World → Prop) (n : Nat) (wr : World) : Prop := P wr ∧ n ≤ wr.heap.size
theorem Sz.next {P : World → Prop} {n : Nat} {w w' : World} (hP : ∀ w w', n ≤ w.heap.size → P w → Below w.heap.size w w' → P w') (h : Sz P n w) (hb : Below w.heap.size w w') : Sz P n w' := ⟨hP _ _ h.2 h.1 hb, Nat.le_trans h.2 hb.size⟩
theorem Sz.nextE {w : World} {s : ByteArray} {u : Value} {wr w' : World} (h : Sz (Ex w s u) (w.heap.size + 2) wr) (hb : Below wr.heap.size wr w') : Sz (Ex w s u) (w.heap.size + 2) w' := Sz.next (fun _ _ h1 h2 h3 => h2.next h1 h3) h hb
theorem Sz.nextO {w : World} {lf : Bool} {u u' : Value} {wr w' : World} (h : Sz (Ox w lf u u') (w.heap.size + 2) wr) (hb : Below wr.heap.size wr w') : Sz (Ox w lf u u') (w.heap.size + 2) w' := Sz.next (fun _ _ h1 h2 h3 => h2.next h1 h3) h hb

set_option maxRecDepth 100000 in
set_option maxHeartbeats 1000000 in
theorem mkE_any (s : ByteArray) (l : List V) (A : Option Addr) (cap : Nat) (w : World) (hv : Vs w w.heap.size l A cap) (hs : s.size ≤ maxLen) (hn : ∀ x ∈ l, 0 ≤ x.n) (h4 : l.length ≤ 4) :
    Calls Try.prog 246 #[.agg #[.string s, .slice A l.length cap]] w (TAns w (rowT (atomT s :: l.map verT))) := by
  have K0 : Sz (Ex w s (.slice A l.length cap)) (w.heap.size + 2) _ := ⟨Ex.new w s (.slice A l.length cap), by simp⟩
  go_enter Try.func246, Try.ntmps246
  go_wp2_with fail
  obtain ⟨N, hN, hM⟩ := norms _ _ K0
  have hne : Nonempty World := ⟨w⟩
  have q0 := fun n => (hN n).1.1.1
  have q1 := fun n => (hN n).1.1.2
  refine mix.region_tail 5 N (by kernel_rfl) (by kernel_rfl) (hM _ (Sz.nextE K0 ((Below.refl _ _).drew))) ?_
  simp only [List.take_succ_cons, List.take_zero, List.drop_succ_cons, List.drop_zero]
  repeat (go_big_quiet_step (first
    | (go_at_call 248; exact call_cls (fun _ _ => Sz.nextE) hN hM (makes.atom_any _ _))))
  refine wpQuiet_nil ?_
  rintro _ ⟨n, rfl⟩
  have K1 := hN n
  generalize N n = w1 at K1 ⊢
  clear hM hN N n hne K0 q0 q1
  obtain ⟨K1, hsz⟩ := K1
  obtain ⟨⟨e0, e1⟩, kb, bw⟩ := K1
  have lt1 := kb.lt
  have hbs := bw.size
  have hc : Calls Try.prog _ _ w1 (TAns w1 (rowT (atomT s :: l.map verT))) := rowV_any 2 0 s (bare_atom hs) l A cap w1 (hv.now bw hbs) h4 hn
  have hF : (rowT (atomT s :: l.map verT)).k = 5 ∧ (rowT (atomT s :: l.map verT)).n = 0 ∧ (rowT (atomT s :: l.map verT)).s = ⟨#[]⟩ := ⟨rfl, rfl, rfl⟩
  generalize hE : rowT (atomT s :: l.map verT) = tt at hc hF
  obtain ⟨tk, tn, ts, tl⟩ := tt
  obtain ⟨q1, q2, q3⟩ := hF
  cases (show tk = 5 from q1)
  cases (show tn = 0 from q2)
  cases (show ts = ⟨#[]⟩ from q3)
  have HE := vers.lay hE
  clear q1 q2 q3 hE
  go_wp2_with fail
  refine hc.mono ?_
  rintro e w5 ⟨A5, c5, rfl, hH, hb5⟩
  simp only [T.val, T.k, T.n, T.s, T.l] at hH ⊢
  have kb2 := kb.below hb5 lt1
  have z0 := kb2.cell 0
  have z1 := kb2.cell 1
  have z2 := kb2.cell 2
  have z3 := kb2.cell 3
  simp at z0 z1 z2 z3
  have f0 := kb2.frozen 0
  have f1 := kb2.frozen 1
  have f2 := kb2.frozen 2
  have f3 := kb2.frozen 3
  have hz5 := hb5.size
  go_wp2_with fail
  refine bodyPost_ret (v := T.val (.mk 5 0 ⟨#[]⟩ tl) (.slice A5 tl.length c5)) (by simp [results, Try.results246, go_sem, z0, z1, z2, z3, T.k, T.n, T.s]) rfl ?_
  have he := HE.out
  unfold rowT at he
  injection he with _ _ _ he
  subst he
  refine ⟨A5, c5, rfl, ?_, ?_⟩
  · refine hH.move (by omega) (by simp) fun p p1 p2 => copies.four_cell w5 (w.heap.size + 1) 0 _ _ _ _ p (by omega)
  · exact copies.four_below (bw.trans (hb5.mono hbs)) (by omega) _ _ _ _

set_option maxRecDepth 100000 in
set_option maxHeartbeats 1000000 in
theorem rowE_any (k0 n0 : Int) (s0 : ByteArray) (hb0 : Bare (.mk k0 n0 s0 [])) (l : List E) (A : Option Addr) (cap : Nat) (w : World) (hv : Es w w.heap.size l A cap) (h4 : l.length ≤ 4) (hn : ∀ x ∈ l, x.l.length ≤ 4 ∧ ∀ y ∈ x.l, 0 ≤ y.n) :
    Calls Try.prog 244 #[.agg #[.int .i64 k0, .int .u64 n0, .string s0, .slice none 0 0], .slice A l.length cap, .func (.func 246) #[] #[]] w (TAns w (rowT (.mk k0 n0 s0 [] :: l.map entT))) := by
  have hR : Rx w (w.heap.size + 1) ((w.alloc (.cells #[.int .i64 k0, .int .u64 n0, .string s0, .slice none 0 0] 273)).alloc (.cells #[.int .i64 0, .int .u64 0, .string ⟨#[]⟩, .slice none 0 0] 273)) := by
    have k2 := Blk.new (w.alloc (.cells #[.int .i64 k0, .int .u64 n0, .string s0, .slice none 0 0] 273)) 273 #[.int .i64 0, .int .u64 0, .string ⟨#[]⟩, .slice none 0 0]
    rw [World.size_alloc] at k2
    exact ⟨k2, ((Below.refl _ _).alloc (Nat.le_refl _) _).alloc (by simp) _⟩
  go_enter Try.func244, Try.ntmps244
  go_wp2_with fail
  have hB1 := built_bare (w := (w.alloc (.cells #[.int .i64 k0, .int .u64 n0, .string s0, .slice none 0 0] 273)).alloc (.cells #[.int .i64 0, .int .u64 0, .string ⟨#[]⟩, .slice none 0 0] 273)) (lo := w.heap.size + 2) hb0 (by simp)
  have E2 := hR.next (B := w.heap.size + 2) (by omega) (by omega) ((Below.refl _ _).alloc (by simp) (.cells (bareL [T.mk k0 n0 s0 []]).toArray 273))
  clear hR
  go_loopw [7, 14] (fun v i wr => ∃ j : Nat, j ≤ l.length ∧ i = .int .i64 j ∧ Built (w.heap.size + 2) wr (.mk k0 n0 s0 [] :: (l.take j).map entT) v ∧ Rx w (w.heap.size + 1) wr ∧ w.heap.size + 2 ≤ wr.heap.size) (fun _ i _ => l.length - (intOf i).toNat)
  case atStart => exact ⟨0, Nat.zero_le _, rfl, by simpa [bareL, T.cells, T.k, T.n, T.s] using hB1, E2, by simp⟩
  case round =>
    clear hB1 E2
    obtain ⟨j, hj, rfl, hB, hE, hz⟩ := hrel
    obtain ⟨kb, bw⟩ := id hE
    by_cases hlt : j < l.length
    · obtain ⟨bk, off, rfl, hbk, v0, v1, hVs⟩ := (hv.below bw).at_ hlt
      have hx4 := hn _ (List.getElem_mem hlt)
      have hvl : l[j].l.length ≤ 140737488355328 := by omega
      have hc : Calls Try.prog _ _ _ (TAns _ (entT l[j])) := mkE_any l[j].s l[j].l l[j].A l[j].c (wr.alloc (.cells #[.string l[j].s, .slice l[j].A l[j].l.length l[j].c] 47)) (((hv.2.2.2.2 _ (List.getElem_mem hlt)).1.below (bw.alloc bw.size _)).more (by have := bw.size; simp; omega)) (hv.2.2.2.2 _ (List.getElem_mem hlt)).2 hx4.2 hx4.1
      clear hVs hx4
      have hF : FitsT (entT l[j]) := fits_row _
      have htk : Hid ((l.take (j + 1)).map entT = (l.take j).map entT ++ [entT l[j]]) := vers.lay (by rw [List.take_succ_eq_append_getElem hlt, List.map_append, List.map_singleton])
      have hown := fun k hk => (hB.own k hk).2
      have hlen56 : Hid (((T.mk k0 n0 s0 [] :: (l.take j).map entT).length + 1) * 56 ≤ 140737488355328) := vers.lay (len5 (by rw [List.length_cons, List.length_map, List.length_take]; omega))
      have D1 : Below wr.heap.size wr (wr.alloc (.cells #[.string l[j].s, .slice l[j].A l[j].l.length l[j].c] 47)) := (Below.refl _ _).alloc (Nat.le_refl _) _
      generalize entT l[j] = t at hc hF htk
      obtain ⟨tk, tn, ts, tl⟩ := t
      obtain ⟨k1, k2, k3⟩ := hF
      clear hv
      go_wp2_with fail
      refine hc.mono ?_
      rintro e w3 ⟨A3, c3, rfl, hH, hb3⟩
      simp only [T.val, T.k, T.n, T.s, T.l] at hH k1 k2 k3 ⊢
      have D3 := D1.trans (hb3.mono D1.size)
      have hB3 := hB.below D3
      have hz3 := D3.size
      have hlo3 : w.heap.size + 2 ≤ w3.heap.size := Nat.le_trans hz hz3
      have hz4 := hb3.size
      simp only [World.size_alloc] at hz4 hH
      have hlo2 : w.heap.size + 2 ≤ wr.heap.size + 1 := Nat.le_succ_of_le hz
      have hown2 := fun k hk => Nat.lt_succ_of_lt (hown k hk)
      have hle56 := hlen56.out
      clear hc D1 hlen56
      go_wp2_with (at_builtin; go_loud (refine wpList_append_term rfl _ _ rfl (t := T.mk tk tn ts tl) rfl hB3 rfl hlo3 hH (Nat.le_refl _) hlo2 hown2 k1 k2 k3 rfl (by simp) hle56 ?next))
      case next =>
        intro v4 w4 hB4 hb4 hz5 _
        have D4 : Below (w.heap.size + 2) wr w4 := (D3.mono hz).trans hb4
        go_wp2_with fail
        exact ⟨⟨j + 1, hlt, by go_num, by rw [htk.out]; simpa using hB4, hE.next (by omega) (by omega) D4, by omega⟩, by simp [intOf]; omega⟩
    · have htk : l.take j = l := List.take_of_length_le (by omega)
      rw [htk] at hB
      have hlm : (T.mk k0 n0 s0 [] :: l.map entT).length = l.length + 1 := by simp
      have hH := hB.held (by rw [hlm]; exact len5 (by omega))
      obtain ⟨A3, c3, rfl, hc3⟩ := hB.form
      clear hB htk hc3
      have HL := vers.lay hlm
      clear hlm
      generalize hts : T.mk k0 n0 s0 [] :: l.map entT = ts at hH HL ⊢
      have lt1 := kb.lt
      have hbs := bw.size
      have hof := ofN_any ts _ rfl A3 c3 _ wr (held_S hH (Nat.le_refl _)) (Nat.le_refl _)
      generalize hnt : ts.length = nt at hof ⊢
      have HNT := vers.lay hnt
      have HTS := vers.lay hts
      clear hnt hH hts
      go_wp2_with (go_at_call 250; refine hof.mono ?_; rintro e w5 ⟨A5, c5, rfl, hH, hb5⟩; have kb2 := kb.below hb5 lt1; have z0 := kb2.cell 0; have z1 := kb2.cell 1; have z2 := kb2.cell 2; have z3 := kb2.cell 3; simp at z0 z1 z2 z3; have f0 := kb2.frozen 0; have f1 := kb2.frozen 1; have f2 := kb2.frozen 2; have f3 := kb2.frozen 3)
      have hz5 := hb5.size
      refine bodyPost_ret (v := T.val (rowT ts) (.slice A5 nt c5)) (by simp [results, Try.results244, go_sem, z0, z1, z2, z3, rowT, T.k, T.n, T.s]) rfl ?_
      have hnt := HNT.out
      have hts := HTS.out
      subst hnt
      subst hts
      refine ⟨A5, c5, rfl, ?_, ?_⟩
      · refine hH.move (by omega) (by simp) fun p p1 p2 => copies.four_cell w5 (w.heap.size + 1) 0 _ _ _ _ p (by omega)
      · exact copies.four_below (bw.trans (hb5.mono hbs)) (by omega) _ _ _ _

set_option maxRecDepth 100000 in
set_option maxHeartbeats 1000000 in
theorem leafTerm_any (es : List E) (A : Option Addr) (cap : Nat) (Q : Option Addr) (nq m : Nat) (w : World) (hv : Es w w.heap.size es A cap) (h4 : es.length ≤ 4) (hn : ∀ x ∈ es, x.l.length ≤ 4 ∧ ∀ y ∈ x.l, 0 ≤ y.n) :
    Calls Try.prog 215 #[.agg #[.bool true, .slice A es.length cap, .slice Q nq m]] w (TAns w (rowT (numT 1 :: es.map entT))) := by
  have K0 : Sz (Ox w true (.slice A es.length cap) (.slice Q nq m)) (w.heap.size + 2) _ := ⟨Ox.new w true (.slice A es.length cap) (.slice Q nq m), by simp⟩
  go_enter Try.func215, Try.ntmps215
  go_wp2_with fail
  obtain ⟨N, hN, hM⟩ := norms _ _ K0
  have hne : Nonempty World := ⟨w⟩
  have q0 := fun n => (hN n).1.1.1
  have q1 := fun n => (hN n).1.1.2.1
  have q2 := fun n => (hN n).1.1.2.2
  refine mix.region_tail 3 N (by kernel_rfl) (by kernel_rfl) (hM _ (Sz.nextO K0 ((Below.refl _ _).drew))) ?_
  simp only [List.take_succ_cons, List.take_zero, List.drop_succ_cons, List.drop_zero]
  repeat (go_big_quiet_step (first
    | (go_at_call 245; exact call_cls (fun _ _ => Sz.nextO) hN hM (makes.num_any _ _))))
  refine wpQuiet_nil ?_
  rintro _ ⟨n, rfl⟩
  have K1 := hN n
  generalize N n = w1 at K1 ⊢
  clear hM hN N n hne K0 q0 q1 q2
  obtain ⟨K1, hsz⟩ := K1
  obtain ⟨⟨e0, e1, e2⟩, kb, bw⟩ := K1
  have lt1 := kb.lt
  have hbs := bw.size
  have hc : Calls Try.prog _ _ w1 (TAns w1 (rowT (numT 1 :: es.map entT))) := rowE_any 1 1 ⟨#[]⟩ (bare_num (by decide)) es A cap w1 (hv.at_world bw) h4 hn
  have hF : (rowT (numT 1 :: es.map entT)).k = 5 ∧ (rowT (numT 1 :: es.map entT)).n = 0 ∧ (rowT (numT 1 :: es.map entT)).s = ⟨#[]⟩ := ⟨rfl, rfl, rfl⟩
  generalize hE : rowT (numT 1 :: es.map entT) = tt at hc hF
  obtain ⟨tk, tn, ts, tl⟩ := tt
  obtain ⟨q1, q2, q3⟩ := hF
  cases (show tk = 5 from q1)
  cases (show tn = 0 from q2)
  cases (show ts = ⟨#[]⟩ from q3)
  have HE := vers.lay hE
  clear q1 q2 q3 hE
  go_wp2_with fail
  refine hc.mono ?_
  rintro e w5 ⟨A5, c5, rfl, hH, hb5⟩
  simp only [T.val, T.k, T.n, T.s, T.l] at hH ⊢
  have kb2 := kb.below hb5 lt1
  have z0 := kb2.cell 0
  have z1 := kb2.cell 1
  have z2 := kb2.cell 2
  have z3 := kb2.cell 3
  simp at z0 z1 z2 z3
  have f0 := kb2.frozen 0
  have f1 := kb2.frozen 1
  have f2 := kb2.frozen 2
  have f3 := kb2.frozen 3
  have hz5 := hb5.size
  go_wp2_with fail
  refine bodyPost_ret (v := T.val (.mk 5 0 ⟨#[]⟩ tl) (.slice A5 tl.length c5)) (by simp [results, Try.results215, go_sem, z0, z1, z2, z3, T.k, T.n, T.s]) rfl ?_
  have he := HE.out
  unfold rowT at he
  injection he with _ _ _ he
  subst he
  refine ⟨A5, c5, rfl, ?_, ?_⟩
  · refine hH.move (by omega) (by simp) fun p p1 p2 => copies.four_cell w5 (w.heap.size + 1) 0 _ _ _ _ p (by omega)
  · exact copies.four_below (bw.trans (hb5.mono hbs)) (by omega) _ _ _ _

set_option maxRecDepth 100000 in
set_option maxHeartbeats 1000000 in
theorem innerTerm_any (ks : List K) (A : Option Addr) (cap : Nat) (Q : Option Addr) (nq m : Nat) (w : World) (hv : Ks w w.heap.size ks A cap) (h4 : ks.length ≤ 4) (hn : ∀ x ∈ ks, refOk x.g x.o x.n) :
    Calls Try.prog 216 #[.agg #[.bool false, .slice Q nq m, .slice A ks.length cap]] w (TAns w (rowT (numT 2 :: ks.map kidT))) := by
  have K0 : Sz (Ox w false (.slice Q nq m) (.slice A ks.length cap)) (w.heap.size + 2) _ := ⟨Ox.new w false (.slice Q nq m) (.slice A ks.length cap), by simp⟩
  go_enter Try.func216, Try.ntmps216
  go_wp2_with fail
  obtain ⟨N, hN, hM⟩ := norms _ _ K0
  have hne : Nonempty World := ⟨w⟩
  have q0 := fun n => (hN n).1.1.1
  have q1 := fun n => (hN n).1.1.2.1
  have q2 := fun n => (hN n).1.1.2.2
  refine mix.region_tail 3 N (by kernel_rfl) (by kernel_rfl) (hM _ (Sz.nextO K0 ((Below.refl _ _).drew))) ?_
  simp only [List.take_succ_cons, List.take_zero, List.drop_succ_cons, List.drop_zero]
  repeat (go_big_quiet_step (first
    | (go_at_call 245; exact call_cls (fun _ _ => Sz.nextO) hN hM (makes.num_any _ _))))
  refine wpQuiet_nil ?_
  rintro _ ⟨n, rfl⟩
  have K1 := hN n
  generalize N n = w1 at K1 ⊢
  clear hM hN N n hne K0 q0 q1 q2
  obtain ⟨K1, hsz⟩ := K1
  obtain ⟨⟨e0, e1, e2⟩, kb, bw⟩ := K1
  have lt1 := kb.lt
  have hbs := bw.size
  have hc : Calls Try.prog _ _ w1 (TAns w1 (rowT (numT 2 :: ks.map kidT))) := rowK_any 1 2 ⟨#[]⟩ (bare_num (by decide)) ks A cap w1 (hv.at_world bw) h4 hn
  have hF : (rowT (numT 2 :: ks.map kidT)).k = 5 ∧ (rowT (numT 2 :: ks.map kidT)).n = 0 ∧ (rowT (numT 2 :: ks.map kidT)).s = ⟨#[]⟩ := ⟨rfl, rfl, rfl⟩
  generalize hE : rowT (numT 2 :: ks.map kidT) = tt at hc hF
  obtain ⟨tk, tn, ts, tl⟩ := tt
  obtain ⟨q1, q2, q3⟩ := hF
  cases (show tk = 5 from q1)
  cases (show tn = 0 from q2)
  cases (show ts = ⟨#[]⟩ from q3)
  have HE := vers.lay hE
  clear q1 q2 q3 hE
  go_wp2_with fail
  refine hc.mono ?_
  rintro e w5 ⟨A5, c5, rfl, hH, hb5⟩
  simp only [T.val, T.k, T.n, T.s, T.l] at hH ⊢
  have kb2 := kb.below hb5 lt1
  have z0 := kb2.cell 0
  have z1 := kb2.cell 1
  have z2 := kb2.cell 2
  have z3 := kb2.cell 3
  simp at z0 z1 z2 z3
  have f0 := kb2.frozen 0
  have f1 := kb2.frozen 1
  have f2 := kb2.frozen 2
  have f3 := kb2.frozen 3
  have hz5 := hb5.size
  go_wp2_with fail
  refine bodyPost_ret (v := T.val (.mk 5 0 ⟨#[]⟩ tl) (.slice A5 tl.length c5)) (by simp [results, Try.results216, go_sem, z0, z1, z2, z3, T.k, T.n, T.s]) rfl ?_
  have he := HE.out
  unfold rowT at he
  injection he with _ _ _ he
  subst he
  refine ⟨A5, c5, rfl, ?_, ?_⟩
  · refine hH.move (by omega) (by simp) fun p p1 p2 => copies.four_cell w5 (w.heap.size + 1) 0 _ _ _ _ p (by omega)
  · exact copies.four_below (bw.trans (hb5.mono hbs)) (by omega) _ _ _ _

theorem ownOf_leaf {a b c d e f h : Int} {es : List E} {ks : List K} (hz : ndbad a b c d e f h true es ks = 0) (A : Option Addr) (cap : Nat) (Q : Option Addr) (m : Nat) (w : World) (hv : Es w w.heap.size es A cap) :
    Calls Try.prog 215 #[.agg #[.bool true, .slice A es.length cap, .slice Q ks.length m]] w (TAns w (nodeT true es ks)) := leafTerm_any es A cap Q ks.length m w hv (ndbad_leaf hz).1 (ndbad_leaf hz).2
theorem ownOf_inner {a b c d e f h : Int} {es : List E} {ks : List K} (hz : ndbad a b c d e f h false es ks = 0) (A : Option Addr) (cap : Nat) (Q : Option Addr) (m : Nat) (w : World) (hk : Ks w w.heap.size ks Q m) :
    Calls Try.prog 216 #[.agg #[.bool false, .slice A es.length cap, .slice Q ks.length m]] w (TAns w (nodeT false es ks)) := innerTerm_any ks Q m A es.length cap w hk (ndbad_inner hz).1 (ndbad_inner hz).2

set_option maxRecDepth 100000 in
set_option maxHeartbeats 1000000 in
theorem ownTerm_leaf (a b c d e f h : Int) (es : List E) (ks : List K) (A : Option Addr) (cap : Nat) (A' : Option Addr) (cap' : Nat) (w : World) (hv : Es w w.heap.size es A cap) (hk : Ks w w.heap.size ks A' cap') :
    Calls Try.prog 177 #[.agg #[.int .i64 a, .int .i64 b, .int .i64 c, .int .i64 d, .int .i64 e, .int .i64 f, .int .i64 h], .agg #[.bool true, .slice A es.length cap, .slice A' ks.length cap']] w (boxes.Ans w (termP a b c d e f h true es ks)) := by
  have T0 := Tx.new w a b c d e f h true (.slice A es.length cap) (.slice A' ks.length cap')
  have hsz := T0.2.lt
  have hc := ownNode_any a b c d e f h true es ks A cap A' cap' _ (hv.at_world T0.1.below) (hk.at_world T0.1.below)
  have ho := fun (hz : ndbad a b c d e f h true es ks = 0) wr (hb : Below w.heap.size w wr) => ownOf_leaf (es := es) (ks := ks) hz A cap A' cap' wr (hv.at_world hb)
  have hkns := nodeT_kns true es ks
  unfold termP
  generalize ndbad a b c d e f h true es ks = n at hc ho ⊢
  generalize nodeT true es ks = t at ho hkns ⊢
  clear hv hk
  generalize es.length = ne at T0 hc ho hsz ⊢
  generalize ks.length = nk at T0 hc ho hsz ⊢
  by_cases hz : n = 0
  · have ho2 := ho hz
    clear ho
    rw [if_neg (by simpa using hz)]
    subst hz
    obtain ⟨tk, tn, ts, tl⟩ := t
    obtain ⟨q1, q2, q3⟩ := hkns
    cases (show tk = 5 from q1)
    cases (show tn = 0 from q2)
    cases (show ts = ⟨#[]⟩ from q3)
    clear q1 q2 q3
    go_enter Try.func177, Try.ntmps177
    go_wp2_with fail
    refine hc.mono ?_
    rintro x w1 ⟨rfl, hb1⟩
    have T1 := T0.next hb1
    clear hb1 T0 hc
    obtain ⟨⟨⟨⟨c0, c1, c2, c3, c4, c5, c6⟩, l1, l2, b1⟩, ⟨n0, n1, n2⟩, l3⟩, hR⟩ := id T1
    go_wp2_with fail
    refine (ho2 _ b1).mono ?_
    rintro x w2 ⟨A2, k2, rfl, hH, hb2⟩
    have T2 := T1.next hb2
    clear c0 c1 c2 c3 c4 c5 c6 l1 l2 n0 n1 n2 l3 hR ho2
    obtain ⟨B2, hR⟩ := T2
    have z0 := hR.cell 0
    have z1 := hR.cell 1
    have z2 := hR.cell 2
    have z3 := hR.cell 3
    simp at z0 z1 z2 z3
    have f0 := hR.frozen 0
    have f1 := hR.frozen 1
    have f2 := hR.frozen 2
    have f3 := hR.frozen 3
    have hs1 := T1.2.lt
    have hs2 := hb2.size
    simp only [T.val, T.k, T.n, T.s, T.l] at hH ⊢
    go_wp2_with fail
    refine bodyPost_ret (v := .tuple #[T.val (.mk 5 0 ⟨#[]⟩ tl) (.slice A2 tl.length k2), .int .i64 0]) (by simp [results, Try.results177, go_sem, z0, z1, z2, z3, T.k, T.n, T.s]) rfl ⟨copies.four_below B2.below (by omega) _ _ _ _, A2, k2, rfl, ?_, ?_⟩
    · refine hH.move b1.size (by simp) fun p p1 p2 => ?_
      exact copies.four_cell w2 (w.heap.size + 2) 0 _ _ _ _ p (by omega)
    · exact ⟨by show (-9223372036854775808 : Int) ≤ 5 ∧ (5 : Int) ≤ 9223372036854775807; decide, by show (0 : Int) ≤ 0 ∧ (0 : Int) < 18446744073709551616; decide, Nat.zero_le maxLen⟩
  · rw [if_pos hz]
    have d1 : (n != 0) = true := by simpa using hz
    clear hz ho hkns
    go_enter Try.func177, Try.ntmps177
    go_wp2_with fail
    refine hc.mono ?_
    rintro x w1 ⟨rfl, hb1⟩
    have T1 := T0.next hb1
    clear hb1 T0 hc
    obtain ⟨B1, hR⟩ := T1
    have z0 := hR.cell 0
    have z1 := hR.cell 1
    have z2 := hR.cell 2
    have z3 := hR.cell 3
    simp at z0 z1 z2 z3
    have f0 := hR.frozen 0
    have f1 := hR.frozen 1
    have f2 := hR.frozen 2
    have f3 := hR.frozen 3
    have hs1 := hR.lt
    go_wp2_with fail
    refine bodyPost_ret (v := .tuple #[T.val boxes.zT (.slice none 0 0), .int .i64 n]) (by simp [results, Try.results177, go_sem, z0, z1, z2, z3, boxes.zT, T.k, T.n, T.s]) rfl ⟨copies.four_below B1.below (by omega) _ _ _ _, none, 0, rfl, Held.nil _ _ _, boxes.fits_z⟩

set_option maxRecDepth 100000 in
set_option maxHeartbeats 1000000 in
theorem ownTerm_inner (a b c d e f h : Int) (es : List E) (ks : List K) (A : Option Addr) (cap : Nat) (A' : Option Addr) (cap' : Nat) (w : World) (hv : Es w w.heap.size es A cap) (hk : Ks w w.heap.size ks A' cap') :
    Calls Try.prog 177 #[.agg #[.int .i64 a, .int .i64 b, .int .i64 c, .int .i64 d, .int .i64 e, .int .i64 f, .int .i64 h], .agg #[.bool false, .slice A es.length cap, .slice A' ks.length cap']] w (boxes.Ans w (termP a b c d e f h false es ks)) := by
  have T0 := Tx.new w a b c d e f h false (.slice A es.length cap) (.slice A' ks.length cap')
  have hsz := T0.2.lt
  have hc := ownNode_any a b c d e f h false es ks A cap A' cap' _ (hv.at_world T0.1.below) (hk.at_world T0.1.below)
  have ho := fun (hz : ndbad a b c d e f h false es ks = 0) wr (hb : Below w.heap.size w wr) => ownOf_inner (es := es) (ks := ks) hz A cap A' cap' wr (hk.at_world hb)
  have hkns := nodeT_kns false es ks
  unfold termP
  generalize ndbad a b c d e f h false es ks = n at hc ho ⊢
  generalize nodeT false es ks = t at ho hkns ⊢
  clear hv hk
  generalize es.length = ne at T0 hc ho hsz ⊢
  generalize ks.length = nk at T0 hc ho hsz ⊢
  by_cases hz : n = 0
  · have ho2 := ho hz
    clear ho
    rw [if_neg (by simpa using hz)]
    subst hz
    obtain ⟨tk, tn, ts, tl⟩ := t
    obtain ⟨q1, q2, q3⟩ := hkns
    cases (show tk = 5 from q1)
    cases (show tn = 0 from q2)
    cases (show ts = ⟨#[]⟩ from q3)
    clear q1 q2 q3
    go_enter Try.func177, Try.ntmps177
    go_wp2_with fail
    refine hc.mono ?_
    rintro x w1 ⟨rfl, hb1⟩
    have T1 := T0.next hb1
    clear hb1 T0 hc
    obtain ⟨⟨⟨⟨c0, c1, c2, c3, c4, c5, c6⟩, l1, l2, b1⟩, ⟨n0, n1, n2⟩, l3⟩, hR⟩ := id T1
    go_wp2_with fail
    refine (ho2 _ b1).mono ?_
    rintro x w2 ⟨A2, k2, rfl, hH, hb2⟩
    have T2 := T1.next hb2
    clear c0 c1 c2 c3 c4 c5 c6 l1 l2 n0 n1 n2 l3 hR ho2
    obtain ⟨B2, hR⟩ := T2
    have z0 := hR.cell 0
    have z1 := hR.cell 1
    have z2 := hR.cell 2
    have z3 := hR.cell 3
    simp at z0 z1 z2 z3
    have f0 := hR.frozen 0
    have f1 := hR.frozen 1
    have f2 := hR.frozen 2
    have f3 := hR.frozen 3
    have hs1 := T1.2.lt
    have hs2 := hb2.size
    simp only [T.val, T.k, T.n, T.s, T.l] at hH ⊢
    go_wp2_with fail
    refine bodyPost_ret (v := .tuple #[T.val (.mk 5 0 ⟨#[]⟩ tl) (.slice A2 tl.length k2), .int .i64 0]) (by simp [results, Try.results177, go_sem, z0, z1, z2, z3, T.k, T.n, T.s]) rfl ⟨copies.four_below B2.below (by omega) _ _ _ _, A2, k2, rfl, ?_, ?_⟩
    · refine hH.move b1.size (by simp) fun p p1 p2 => ?_
      exact copies.four_cell w2 (w.heap.size + 2) 0 _ _ _ _ p (by omega)
    · exact ⟨by show (-9223372036854775808 : Int) ≤ 5 ∧ (5 : Int) ≤ 9223372036854775807; decide, by show (0 : Int) ≤ 0 ∧ (0 : Int) < 18446744073709551616; decide, Nat.zero_le maxLen⟩
  · rw [if_pos hz]
    have d1 : (n != 0) = true := by simpa using hz
    clear hz ho hkns
    go_enter Try.func177, Try.ntmps177
    go_wp2_with fail
    refine hc.mono ?_
    rintro x w1 ⟨rfl, hb1⟩
    have T1 := T0.next hb1
    clear hb1 T0 hc
    obtain ⟨B1, hR⟩ := T1
    have z0 := hR.cell 0
    have z1 := hR.cell 1
    have z2 := hR.cell 2
    have z3 := hR.cell 3
    simp at z0 z1 z2 z3
    have f0 := hR.frozen 0
    have f1 := hR.frozen 1
    have f2 := hR.frozen 2
    have f3 := hR.frozen 3
    have hs1 := hR.lt
    go_wp2_with fail
    refine bodyPost_ret (v := .tuple #[T.val boxes.zT (.slice none 0 0), .int .i64 n]) (by simp [results, Try.results177, go_sem, z0, z1, z2, z3, boxes.zT, T.k, T.n, T.s]) rfl ⟨copies.four_below B1.below (by omega) _ _ _ _, none, 0, rfl, Held.nil _ _ _, boxes.fits_z⟩

theorem termIs : TermIs := fun a b c d e f h lf es ks A cap A' cap' w hv hk => by
  cases lf with
  | true => exact ownTerm_leaf a b c d e f h es ks A cap A' cap' w hv hk
  | false => exact ownTerm_inner a b c d e f h es ks A cap A' cap' w hv hk

end Go.Proofs.Ytoenkkbcpafanaa.nodes

/- Package node's own Term leaves rows of its own. -/
import Derived.Test.YtnkfboplafckoaaNeJ


namespace Go.Proofs.Ytnkfboplafckoaa.nodes
set_option linter.unusedVariables false
set_option linter.unusedSimpArgs false
open Go.RowKit Go.Proofs.Ytnkfboplafckoaa.base Go.Proofs.Ytnkfboplafckoaa.quotas Go.Proofs.Ytnkfboplafckoaa.vers Go.Proofs.Ytnkfboplafckoaa.tm Go.Proofs.Ytnkfboplafckoaa.lies Go.Proofs.Ytnkfboplafckoaa.copies Go.Proofs.Ytnkfboplafckoaa.makes Go.Proofs.Ytnkfboplafckoaa.built

theorem of2N_any (l : List T) (n : Nat) (hn : l.length = n) (A : Option Addr) (c B : Nat) (w : World) (h : LiesS w B l A c) (hB : B ≤ w.heap.size) :
    Calls Try.prog 40 #[.slice A n c] w fun e w' => ∃ A' c', e = .returned (.agg #[.int .i64 5, .int .u64 0, .string ⟨#[]⟩, .slice A' n c']) ∧ Held w' w.heap.size w'.heap.size l (.slice A' n c') ∧ Below w.heap.size w w' ∧ Row2 w' w.heap.size w'.heap.size A' n := by
  subst hn
  exact makes.of2_any l A c B w h hB
def TAns2 (w : World) (t : T) (e : Ending) (w' : World) : Prop := ∃ A c, e = .returned (T.val t (.slice A t.l.length c)) ∧ Held w' w.heap.size w'.heap.size t.l (.slice A t.l.length c) ∧ Below w.heap.size w w' ∧ Row2 w' w.heap.size w'.heap.size A t.l.length
def Ans2 (W : World) (r : T × Int) (e : Ending) (w' : World) : Prop :=
  Below W.heap.size W w' ∧ ∃ (A : Option Addr) (c : Nat), e = .returned (.tuple #[T.val r.1 (.slice A r.1.l.length c), .int .i64 r.2]) ∧ Held w' W.heap.size w'.heap.size r.1.l (.slice A r.1.l.length c) ∧ reads.Fits r.1 ∧ Row2 w' W.heap.size w'.heap.size A r.1.l.length
set_option maxRecDepth 100000 in
set_option maxHeartbeats 1000000 in
theorem rowK2_any (k0 n0 : Int) (s0 : ByteArray) (hb0 : Bare (.mk k0 n0 s0 [])) (l : List K) (A : Option Addr) (cap : Nat) (w : World) (hv : Ks w w.heap.size l A cap) (h4 : l.length ≤ 4) (hn : ∀ x ∈ l, refOk x.g x.o x.n) :
    Calls Try.prog 42 #[.agg #[.int .i64 k0, .int .u64 n0, .string s0, .slice none 0 0], .slice A l.length cap, .func (.func 43) #[] #[]] w (TAns2 w (rowT (.mk k0 n0 s0 [] :: l.map kidT))) := by
  have hR : Rx w (w.heap.size + 1) ((w.alloc (.cells #[.int .i64 k0, .int .u64 n0, .string s0, .slice none 0 0] 31)).alloc (.cells #[.int .i64 0, .int .u64 0, .string ⟨#[]⟩, .slice none 0 0] 31)) := by
    have k2 := Blk.new (w.alloc (.cells #[.int .i64 k0, .int .u64 n0, .string s0, .slice none 0 0] 31)) 31 #[.int .i64 0, .int .u64 0, .string ⟨#[]⟩, .slice none 0 0]
    rw [World.size_alloc] at k2
    exact ⟨k2, ((Below.refl _ _).alloc (Nat.le_refl _) _).alloc (by simp) _⟩
  go_enter Try.func42, Try.ntmps42
  go_wp2_with fail
  have hB1 := built_bare (w := (w.alloc (.cells #[.int .i64 k0, .int .u64 n0, .string s0, .slice none 0 0] 31)).alloc (.cells #[.int .i64 0, .int .u64 0, .string ⟨#[]⟩, .slice none 0 0] 31)) (lo := w.heap.size + 2) hb0 (by simp)
  have E2 := hR.next (B := w.heap.size + 2) (by omega) (by omega) ((Below.refl _ _).alloc (by simp) (.cells (bareL [T.mk k0 n0 s0 []]).toArray 31))
  clear hR
  go_loopw [7, 14] (fun v i wr => ∃ j : Nat, j ≤ l.length ∧ i = .int .i64 j ∧ Built (w.heap.size + 2) wr (.mk k0 n0 s0 [] :: (l.take j).map kidT) v ∧ Rx w (w.heap.size + 1) wr ∧ w.heap.size + 2 ≤ wr.heap.size) (fun _ i _ => l.length - (intOf i).toNat)
  case atStart => exact ⟨0, Nat.zero_le _, rfl, by simpa [bareL, T.cells, T.k, T.n, T.s] using hB1, E2, by simp⟩
  case round =>
    clear hB1 E2
    obtain ⟨j, hj, rfl, hB, hE, hz⟩ := hrel
    obtain ⟨kb, bw⟩ := id hE
    by_cases hlt : j < l.length
    · obtain ⟨bk, off, rfl, hbk, v0, v1, v2, v3, v4⟩ := (hv.below bw).at_ hlt
      have hc := mkK_any l[j] (wr.alloc (.cells #[.string l[j].s, .int .u64 (l[j].k : Int), .int .i64 l[j].g, .int .i64 l[j].o, .int .i64 l[j].n] 43)) (hv.2.2.2.2 _ (List.getElem_mem hlt)) (hn _ (List.getElem_mem hlt))
      have hF : FitsT (kidT l[j]) := fits_row _
      have htk : Hid ((l.take (j + 1)).map kidT = (l.take j).map kidT ++ [kidT l[j]]) := vers.lay (by rw [List.take_succ_eq_append_getElem hlt, List.map_append, List.map_singleton])
      have hown := fun k hk => (hB.own k hk).2
      have hlen56 : Hid (((T.mk k0 n0 s0 [] :: (l.take j).map kidT).length + 1) * 56 ≤ 140737488355328) := vers.lay (len5 (by rw [List.length_cons, List.length_map, List.length_take]; omega))
      have D1 : Below wr.heap.size wr (wr.alloc (.cells #[.string l[j].s, .int .u64 (l[j].k : Int), .int .i64 l[j].g, .int .i64 l[j].o, .int .i64 l[j].n] 43)) := (Below.refl _ _).alloc (Nat.le_refl _) _
      generalize kidT l[j] = t at hc hF htk
      obtain ⟨tk, tn, ts, tl⟩ := t
      obtain ⟨k1, k2, k3⟩ := hF
      clear hv
      go_wp2_with fail
      refine hc.mono ?_
      rintro e w3 ⟨A3, c3, rfl, hH, hb3⟩
      simp only [T.val, T.k, T.n, T.s, T.l] at hH k1 k2 k3 ⊢
      have D3 := D1.trans (hb3.mono D1.size)
      have hB3 := hB.below D3
      have hz3 := D3.size
      have hlo3 : w.heap.size + 2 ≤ w3.heap.size := Nat.le_trans hz hz3
      have hz4 := hb3.size
      simp only [World.size_alloc] at hz4 hH
      have hlo2 : w.heap.size + 2 ≤ wr.heap.size + 1 := Nat.le_succ_of_le hz
      have hown2 := fun k hk => Nat.lt_succ_of_lt (hown k hk)
      have hle56 := hlen56.out
      clear hc D1 hlen56
      go_wp2_with (at_builtin; go_loud (refine wpList_append_term rfl _ _ rfl (t := T.mk tk tn ts tl) rfl hB3 rfl hlo3 hH (Nat.le_refl _) hlo2 hown2 k1 k2 k3 rfl (by simp) hle56 ?next))
      case next =>
        intro v4 w4 hB4 hb4 hz5 _
        have D4 : Below (w.heap.size + 2) wr w4 := (D3.mono hz).trans hb4
        go_wp2_with fail
        exact ⟨⟨j + 1, hlt, by go_num, by rw [htk.out]; simpa using hB4, hE.next (by omega) (by omega) D4, by omega⟩, by simp [intOf]; omega⟩
    · have htk : l.take j = l := List.take_of_length_le (by omega)
      rw [htk] at hB
      have hlm : (T.mk k0 n0 s0 [] :: l.map kidT).length = l.length + 1 := by simp
      have hH := hB.held (by rw [hlm]; exact len5 (by omega))
      obtain ⟨A3, c3, rfl, hc3⟩ := hB.form
      clear hB htk hc3
      have HL := vers.lay hlm
      clear hlm
      generalize hts : T.mk k0 n0 s0 [] :: l.map kidT = ts at hH HL ⊢
      have lt1 := kb.lt
      have hbs := bw.size
      have hof := of2N_any ts _ rfl A3 c3 _ wr (held_S hH (Nat.le_refl _)) (Nat.le_refl _)
      generalize hnt : ts.length = nt at hof ⊢
      have HNT := vers.lay hnt
      have HTS := vers.lay hts
      clear hnt hH hts
      go_wp2_with (go_at_call 40; refine hof.mono ?_; rintro e w5 ⟨A5, c5, rfl, hH, hb5, hR0⟩; have HR5 := vers.lay hR0; clear hR0; have kb2 := kb.below hb5 lt1; have z0 := kb2.cell 0; have z1 := kb2.cell 1; have z2 := kb2.cell 2; have z3 := kb2.cell 3; simp at z0 z1 z2 z3; have f0 := kb2.frozen 0; have f1 := kb2.frozen 1; have f2 := kb2.frozen 2; have f3 := kb2.frozen 3)
      have hz5 := hb5.size
      refine bodyPost_ret (v := T.val (rowT ts) (.slice A5 nt c5)) (by simp [results, Try.results42, go_sem, z0, z1, z2, z3, rowT, T.k, T.n, T.s]) rfl ?_
      have hnt := HNT.out
      have hts := HTS.out
      subst hnt
      subst hts
      refine ⟨A5, c5, rfl, ?_, ?_, ?_⟩
      · refine hH.move (by omega) (by simp) fun p p1 p2 => copies.four_cell w5 (w.heap.size + 1) 0 _ _ _ _ p (by omega)
      · exact copies.four_below (bw.trans (hb5.mono hbs)) (by omega) _ _ _ _
      · exact HR5.out.move (by omega) (by simp) fun k k1 k2 => copies.four_heap w5 (w.heap.size + 1) 0 _ _ _ _ k (by omega)

set_option maxRecDepth 100000 in
set_option maxHeartbeats 1000000 in
theorem rowE2_any (k0 n0 : Int) (s0 : ByteArray) (hb0 : Bare (.mk k0 n0 s0 [])) (l : List E) (A : Option Addr) (cap : Nat) (w : World) (hv : Es w w.heap.size l A cap) (h4 : l.length ≤ 4) (hn : ∀ x ∈ l, x.l.length ≤ 4 ∧ ∀ y ∈ x.l, 0 ≤ y.n) :
    Calls Try.prog 34 #[.agg #[.int .i64 k0, .int .u64 n0, .string s0, .slice none 0 0], .slice A l.length cap, .func (.func 36) #[] #[]] w (TAns2 w (rowT (.mk k0 n0 s0 [] :: l.map entT))) := by
  have hR : Rx w (w.heap.size + 1) ((w.alloc (.cells #[.int .i64 k0, .int .u64 n0, .string s0, .slice none 0 0] 31)).alloc (.cells #[.int .i64 0, .int .u64 0, .string ⟨#[]⟩, .slice none 0 0] 31)) := by
    have k2 := Blk.new (w.alloc (.cells #[.int .i64 k0, .int .u64 n0, .string s0, .slice none 0 0] 31)) 31 #[.int .i64 0, .int .u64 0, .string ⟨#[]⟩, .slice none 0 0]
    rw [World.size_alloc] at k2
    exact ⟨k2, ((Below.refl _ _).alloc (Nat.le_refl _) _).alloc (by simp) _⟩
  go_enter Try.func34, Try.ntmps34
  go_wp2_with fail
  have hB1 := built_bare (w := (w.alloc (.cells #[.int .i64 k0, .int .u64 n0, .string s0, .slice none 0 0] 31)).alloc (.cells #[.int .i64 0, .int .u64 0, .string ⟨#[]⟩, .slice none 0 0] 31)) (lo := w.heap.size + 2) hb0 (by simp)
  have E2 := hR.next (B := w.heap.size + 2) (by omega) (by omega) ((Below.refl _ _).alloc (by simp) (.cells (bareL [T.mk k0 n0 s0 []]).toArray 31))
  clear hR
  go_loopw [7, 14] (fun v i wr => ∃ j : Nat, j ≤ l.length ∧ i = .int .i64 j ∧ Built (w.heap.size + 2) wr (.mk k0 n0 s0 [] :: (l.take j).map entT) v ∧ Rx w (w.heap.size + 1) wr ∧ w.heap.size + 2 ≤ wr.heap.size) (fun _ i _ => l.length - (intOf i).toNat)
  case atStart => exact ⟨0, Nat.zero_le _, rfl, by simpa [bareL, T.cells, T.k, T.n, T.s] using hB1, E2, by simp⟩
  case round =>
    clear hB1 E2
    obtain ⟨j, hj, rfl, hB, hE, hz⟩ := hrel
    obtain ⟨kb, bw⟩ := id hE
    by_cases hlt : j < l.length
    · obtain ⟨bk, off, rfl, hbk, v0, v1, hVs⟩ := (hv.below bw).at_ hlt
      have hx4 := hn _ (List.getElem_mem hlt)
      have hvl : l[j].l.length ≤ 140737488355328 := by omega
      have hc : Calls Try.prog _ _ _ (TAns _ (entT l[j])) := mkE_any l[j].s l[j].l l[j].A l[j].c (wr.alloc (.cells #[.string l[j].s, .slice l[j].A l[j].l.length l[j].c] 53)) (((hv.2.2.2.2 _ (List.getElem_mem hlt)).1.below (bw.alloc bw.size _)).more (by have := bw.size; simp; omega)) (hv.2.2.2.2 _ (List.getElem_mem hlt)).2 hx4.2 hx4.1
      clear hVs hx4
      have hF : FitsT (entT l[j]) := fits_row _
      have htk : Hid ((l.take (j + 1)).map entT = (l.take j).map entT ++ [entT l[j]]) := vers.lay (by rw [List.take_succ_eq_append_getElem hlt, List.map_append, List.map_singleton])
      have hown := fun k hk => (hB.own k hk).2
      have hlen56 : Hid (((T.mk k0 n0 s0 [] :: (l.take j).map entT).length + 1) * 56 ≤ 140737488355328) := vers.lay (len5 (by rw [List.length_cons, List.length_map, List.length_take]; omega))
      have D1 : Below wr.heap.size wr (wr.alloc (.cells #[.string l[j].s, .slice l[j].A l[j].l.length l[j].c] 53)) := (Below.refl _ _).alloc (Nat.le_refl _) _
      generalize entT l[j] = t at hc hF htk
      obtain ⟨tk, tn, ts, tl⟩ := t
      obtain ⟨k1, k2, k3⟩ := hF
      clear hv
      go_wp2_with fail
      refine hc.mono ?_
      rintro e w3 ⟨A3, c3, rfl, hH, hb3⟩
      simp only [T.val, T.k, T.n, T.s, T.l] at hH k1 k2 k3 ⊢
      have D3 := D1.trans (hb3.mono D1.size)
      have hB3 := hB.below D3
      have hz3 := D3.size
      have hlo3 : w.heap.size + 2 ≤ w3.heap.size := Nat.le_trans hz hz3
      have hz4 := hb3.size
      simp only [World.size_alloc] at hz4 hH
      have hlo2 : w.heap.size + 2 ≤ wr.heap.size + 1 := Nat.le_succ_of_le hz
      have hown2 := fun k hk => Nat.lt_succ_of_lt (hown k hk)
      have hle56 := hlen56.out
      clear hc D1 hlen56
      go_wp2_with (at_builtin; go_loud (refine wpList_append_term rfl _ _ rfl (t := T.mk tk tn ts tl) rfl hB3 rfl hlo3 hH (Nat.le_refl _) hlo2 hown2 k1 k2 k3 rfl (by simp) hle56 ?next))
      case next =>
        intro v4 w4 hB4 hb4 hz5 _
        have D4 : Below (w.heap.size + 2) wr w4 := (D3.mono hz).trans hb4
        go_wp2_with fail
        exact ⟨⟨j + 1, hlt, by go_num, by rw [htk.out]; simpa using hB4, hE.next (by omega) (by omega) D4, by omega⟩, by simp [intOf]; omega⟩
    · have htk : l.take j = l := List.take_of_length_le (by omega)
      rw [htk] at hB
      have hlm : (T.mk k0 n0 s0 [] :: l.map entT).length = l.length + 1 := by simp
      have hH := hB.held (by rw [hlm]; exact len5 (by omega))
      obtain ⟨A3, c3, rfl, hc3⟩ := hB.form
      clear hB htk hc3
      have HL := vers.lay hlm
      clear hlm
      generalize hts : T.mk k0 n0 s0 [] :: l.map entT = ts at hH HL ⊢
      have lt1 := kb.lt
      have hbs := bw.size
      have hof := of2N_any ts _ rfl A3 c3 _ wr (held_S hH (Nat.le_refl _)) (Nat.le_refl _)
      generalize hnt : ts.length = nt at hof ⊢
      have HNT := vers.lay hnt
      have HTS := vers.lay hts
      clear hnt hH hts
      go_wp2_with (go_at_call 40; refine hof.mono ?_; rintro e w5 ⟨A5, c5, rfl, hH, hb5, hR0⟩; have HR5 := vers.lay hR0; clear hR0; have kb2 := kb.below hb5 lt1; have z0 := kb2.cell 0; have z1 := kb2.cell 1; have z2 := kb2.cell 2; have z3 := kb2.cell 3; simp at z0 z1 z2 z3; have f0 := kb2.frozen 0; have f1 := kb2.frozen 1; have f2 := kb2.frozen 2; have f3 := kb2.frozen 3)
      have hz5 := hb5.size
      refine bodyPost_ret (v := T.val (rowT ts) (.slice A5 nt c5)) (by simp [results, Try.results34, go_sem, z0, z1, z2, z3, rowT, T.k, T.n, T.s]) rfl ?_
      have hnt := HNT.out
      have hts := HTS.out
      subst hnt
      subst hts
      refine ⟨A5, c5, rfl, ?_, ?_, ?_⟩
      · refine hH.move (by omega) (by simp) fun p p1 p2 => copies.four_cell w5 (w.heap.size + 1) 0 _ _ _ _ p (by omega)
      · exact copies.four_below (bw.trans (hb5.mono hbs)) (by omega) _ _ _ _
      · exact HR5.out.move (by omega) (by simp) fun k k1 k2 => copies.four_heap w5 (w.heap.size + 1) 0 _ _ _ _ k (by omega)

set_option maxRecDepth 100000 in
set_option maxHeartbeats 1000000 in
theorem leafTerm2_any (es : List E) (A : Option Addr) (cap : Nat) (Q : Option Addr) (nq m : Nat) (w : World) (hv : Es w w.heap.size es A cap) (h4 : es.length ≤ 4) (hn : ∀ x ∈ es, x.l.length ≤ 4 ∧ ∀ y ∈ x.l, 0 ≤ y.n) :
    Calls Try.prog 16 #[.agg #[.bool true, .slice A es.length cap, .slice Q nq m]] w (TAns2 w (rowT (numT 1 :: es.map entT))) := by
  have K0 : Sz (Ox w true (.slice A es.length cap) (.slice Q nq m)) (w.heap.size + 2) _ := ⟨Ox.new w true (.slice A es.length cap) (.slice Q nq m), by simp⟩
  go_enter Try.func16, Try.ntmps16
  go_wp2_with fail
  obtain ⟨N, hN, hM⟩ := norms _ _ K0
  have hne : Nonempty World := ⟨w⟩
  have q0 := fun n => (hN n).1.1.1
  have q1 := fun n => (hN n).1.1.2.1
  have q2 := fun n => (hN n).1.1.2.2
  refine mix.region_tail 3 N (by kernel_rfl) (by kernel_rfl) (hM _ (Sz.nextO K0 ((Below.refl _ _).drew))) ?_
  simp only [List.take_succ_cons, List.take_zero, List.drop_succ_cons, List.drop_zero]
  repeat (go_big_quiet_step (first
    | (go_at_call 35; exact call_cls (fun _ _ => Sz.nextO) hN hM (makes.num_any _ _))))
  refine wpQuiet_nil ?_
  rintro _ ⟨n, rfl⟩
  have K1 := hN n
  generalize N n = w1 at K1 ⊢
  clear hM hN N n hne K0 q0 q1 q2
  obtain ⟨K1, hsz⟩ := K1
  obtain ⟨⟨e0, e1, e2⟩, kb, bw⟩ := K1
  have lt1 := kb.lt
  have hbs := bw.size
  have hc : Calls Try.prog _ _ w1 (TAns2 w1 (rowT (numT 1 :: es.map entT))) := rowE2_any 1 1 ⟨#[]⟩ (bare_num (by decide)) es A cap w1 (hv.at_world bw) h4 hn
  have hF : (rowT (numT 1 :: es.map entT)).k = 5 ∧ (rowT (numT 1 :: es.map entT)).n = 0 ∧ (rowT (numT 1 :: es.map entT)).s = ⟨#[]⟩ := ⟨rfl, rfl, rfl⟩
  generalize hE : rowT (numT 1 :: es.map entT) = tt at hc hF
  obtain ⟨tk, tn, ts, tl⟩ := tt
  obtain ⟨q1, q2, q3⟩ := hF
  cases (show tk = 5 from q1)
  cases (show tn = 0 from q2)
  cases (show ts = ⟨#[]⟩ from q3)
  have HE := vers.lay hE
  clear q1 q2 q3 hE
  go_wp2_with fail
  refine hc.mono ?_
  rintro e w5 ⟨A5, c5, rfl, hH, hb5, hR0⟩
  have HR5 := vers.lay hR0
  clear hR0
  simp only [T.val, T.k, T.n, T.s, T.l] at hH ⊢
  have kb2 := kb.below hb5 lt1
  have z0 := kb2.cell 0
  have z1 := kb2.cell 1
  have z2 := kb2.cell 2
  have z3 := kb2.cell 3
  simp at z0 z1 z2 z3
  have f0 := kb2.frozen 0
  have f1 := kb2.frozen 1
  have f2 := kb2.frozen 2
  have f3 := kb2.frozen 3
  have hz5 := hb5.size
  go_wp2_with fail
  refine bodyPost_ret (v := T.val (.mk 5 0 ⟨#[]⟩ tl) (.slice A5 tl.length c5)) (by simp [results, Try.results16, go_sem, z0, z1, z2, z3, T.k, T.n, T.s]) rfl ?_
  have he := HE.out
  unfold rowT at he
  injection he with _ _ _ he
  subst he
  refine ⟨A5, c5, rfl, ?_, ?_, ?_⟩
  · refine hH.move (by omega) (by simp) fun p p1 p2 => copies.four_cell w5 (w.heap.size + 1) 0 _ _ _ _ p (by omega)
  · exact copies.four_below (bw.trans (hb5.mono hbs)) (by omega) _ _ _ _
  · exact HR5.out.move (by omega) (by simp) fun k k1 k2 => copies.four_heap w5 (w.heap.size + 1) 0 _ _ _ _ k (by omega)

set_option maxRecDepth 100000 in
set_option maxHeartbeats 1000000 in
theorem innerTerm2_any (ks : List K) (A : Option Addr) (cap : Nat) (Q : Option Addr) (nq m : Nat) (w : World) (hv : Ks w w.heap.size ks A cap) (h4 : ks.length ≤ 4) (hn : ∀ x ∈ ks, refOk x.g x.o x.n) :
    Calls Try.prog 17 #[.agg #[.bool false, .slice Q nq m, .slice A ks.length cap]] w (TAns2 w (rowT (numT 2 :: ks.map kidT))) := by
  have K0 : Sz (Ox w false (.slice Q nq m) (.slice A ks.length cap)) (w.heap.size + 2) _ := ⟨Ox.new w false (.slice Q nq m) (.slice A ks.length cap), by simp⟩
  go_enter Try.func17, Try.ntmps17
  go_wp2_with fail
  obtain ⟨N, hN, hM⟩ := norms _ _ K0
  have hne : Nonempty World := ⟨w⟩
  have q0 := fun n => (hN n).1.1.1
  have q1 := fun n => (hN n).1.1.2.1
  have q2 := fun n => (hN n).1.1.2.2
  refine mix.region_tail 3 N (by kernel_rfl) (by kernel_rfl) (hM _ (Sz.nextO K0 ((Below.refl _ _).drew))) ?_
  simp only [List.take_succ_cons, List.take_zero, List.drop_succ_cons, List.drop_zero]
  repeat (go_big_quiet_step (first
    | (go_at_call 35; exact call_cls (fun _ _ => Sz.nextO) hN hM (makes.num_any _ _))))
  refine wpQuiet_nil ?_
  rintro _ ⟨n, rfl⟩
  have K1 := hN n
  generalize N n = w1 at K1 ⊢
  clear hM hN N n hne K0 q0 q1 q2
  obtain ⟨K1, hsz⟩ := K1
  obtain ⟨⟨e0, e1, e2⟩, kb, bw⟩ := K1
  have lt1 := kb.lt
  have hbs := bw.size
  have hc : Calls Try.prog _ _ w1 (TAns2 w1 (rowT (numT 2 :: ks.map kidT))) := rowK2_any 1 2 ⟨#[]⟩ (bare_num (by decide)) ks A cap w1 (hv.at_world bw) h4 hn
  have hF : (rowT (numT 2 :: ks.map kidT)).k = 5 ∧ (rowT (numT 2 :: ks.map kidT)).n = 0 ∧ (rowT (numT 2 :: ks.map kidT)).s = ⟨#[]⟩ := ⟨rfl, rfl, rfl⟩
  generalize hE : rowT (numT 2 :: ks.map kidT) = tt at hc hF
  obtain ⟨tk, tn, ts, tl⟩ := tt
  obtain ⟨q1, q2, q3⟩ := hF
  cases (show tk = 5 from q1)
  cases (show tn = 0 from q2)
  cases (show ts = ⟨#[]⟩ from q3)
  have HE := vers.lay hE
  clear q1 q2 q3 hE
  go_wp2_with fail
  refine hc.mono ?_
  rintro e w5 ⟨A5, c5, rfl, hH, hb5, hR0⟩
  have HR5 := vers.lay hR0
  clear hR0
  simp only [T.val, T.k, T.n, T.s, T.l] at hH ⊢
  have kb2 := kb.below hb5 lt1
  have z0 := kb2.cell 0
  have z1 := kb2.cell 1
  have z2 := kb2.cell 2
  have z3 := kb2.cell 3
  simp at z0 z1 z2 z3
  have f0 := kb2.frozen 0
  have f1 := kb2.frozen 1
  have f2 := kb2.frozen 2
  have f3 := kb2.frozen 3
  have hz5 := hb5.size
  go_wp2_with fail
  refine bodyPost_ret (v := T.val (.mk 5 0 ⟨#[]⟩ tl) (.slice A5 tl.length c5)) (by simp [results, Try.results17, go_sem, z0, z1, z2, z3, T.k, T.n, T.s]) rfl ?_
  have he := HE.out
  unfold rowT at he
  injection he with _ _ _ he
  subst he
  refine ⟨A5, c5, rfl, ?_, ?_, ?_⟩
  · refine hH.move (by omega) (by simp) fun p p1 p2 => copies.four_cell w5 (w.heap.size + 1) 0 _ _ _ _ p (by omega)
  · exact copies.four_below (bw.trans (hb5.mono hbs)) (by omega) _ _ _ _
  · exact HR5.out.move (by omega) (by simp) fun k k1 k2 => copies.four_heap w5 (w.heap.size + 1) 0 _ _ _ _ k (by omega)

theorem ownOf2_leaf {a b c d e f h : Int} {es : List E} {ks : List K} (hz : ndbad a b c d e f h true es ks = 0) (A : Option Addr) (cap : Nat) (Q : Option Addr) (m : Nat) (w : World) (hv : Es w w.heap.size es A cap) :
    Calls Try.prog 16 #[.agg #[.bool true, .slice A es.length cap, .slice Q ks.length m]] w (TAns2 w (nodeT true es ks)) := leafTerm2_any es A cap Q ks.length m w hv (ndbad_leaf hz).1 (ndbad_leaf hz).2
theorem ownOf2_inner {a b c d e f h : Int} {es : List E} {ks : List K} (hz : ndbad a b c d e f h false es ks = 0) (A : Option Addr) (cap : Nat) (Q : Option Addr) (m : Nat) (w : World) (hk : Ks w w.heap.size ks Q m) :
    Calls Try.prog 17 #[.agg #[.bool false, .slice A es.length cap, .slice Q ks.length m]] w (TAns2 w (nodeT false es ks)) := innerTerm2_any ks Q m A es.length cap w hk (ndbad_inner hz).1 (ndbad_inner hz).2

set_option maxRecDepth 100000 in
set_option maxHeartbeats 1000000 in
theorem ownTerm2_leaf (a b c d e f h : Int) (es : List E) (ks : List K) (A : Option Addr) (cap : Nat) (A' : Option Addr) (cap' : Nat) (w : World) (hv : Es w w.heap.size es A cap) (hk : Ks w w.heap.size ks A' cap') :
    Calls Try.prog 5 #[.agg #[.int .i64 a, .int .i64 b, .int .i64 c, .int .i64 d, .int .i64 e, .int .i64 f, .int .i64 h], .agg #[.bool true, .slice A es.length cap, .slice A' ks.length cap']] w (Ans2 w (termP a b c d e f h true es ks)) := by
  have T0 := Tx.new w a b c d e f h true (.slice A es.length cap) (.slice A' ks.length cap')
  have hsz := T0.2.lt
  have hc := ownNode_any a b c d e f h true es ks A cap A' cap' _ (hv.at_world T0.1.below) (hk.at_world T0.1.below)
  have ho := fun (hz : ndbad a b c d e f h true es ks = 0) wr (hb : Below w.heap.size w wr) => ownOf2_leaf (es := es) (ks := ks) hz A cap A' cap' wr (hv.at_world hb)
  have hkns := nodeT_kns true es ks
  unfold termP
  generalize ndbad a b c d e f h true es ks = n at hc ho ⊢
  generalize nodeT true es ks = t at ho hkns ⊢
  clear hv hk
  generalize es.length = ne at T0 hc ho hsz ⊢
  generalize ks.length = nk at T0 hc ho hsz ⊢
  by_cases hz : n = 0
  · have ho2 := ho hz
    clear ho
    rw [if_neg (by simpa using hz)]
    subst hz
    obtain ⟨tk, tn, ts, tl⟩ := t
    obtain ⟨q1, q2, q3⟩ := hkns
    cases (show tk = 5 from q1)
    cases (show tn = 0 from q2)
    cases (show ts = ⟨#[]⟩ from q3)
    clear q1 q2 q3
    go_enter Try.func5, Try.ntmps5
    go_wp2_with fail
    refine hc.mono ?_
    rintro x w1 ⟨rfl, hb1⟩
    have T1 := T0.next hb1
    clear hb1 T0 hc
    obtain ⟨⟨⟨⟨c0, c1, c2, c3, c4, c5, c6⟩, l1, l2, b1⟩, ⟨n0, n1, n2⟩, l3⟩, hR⟩ := id T1
    go_wp2_with fail
    refine (ho2 _ b1).mono ?_
    rintro x w2 ⟨A2, k2, rfl, hH, hb2, hR0⟩
    have HR5 := vers.lay hR0
    clear hR0
    have T2 := T1.next hb2
    clear c0 c1 c2 c3 c4 c5 c6 l1 l2 n0 n1 n2 l3 hR ho2
    obtain ⟨B2, hR⟩ := T2
    have z0 := hR.cell 0
    have z1 := hR.cell 1
    have z2 := hR.cell 2
    have z3 := hR.cell 3
    simp at z0 z1 z2 z3
    have f0 := hR.frozen 0
    have f1 := hR.frozen 1
    have f2 := hR.frozen 2
    have f3 := hR.frozen 3
    have hs1 := T1.2.lt
    have hs2 := hb2.size
    simp only [T.val, T.k, T.n, T.s, T.l] at hH ⊢
    go_wp2_with fail
    refine bodyPost_ret (v := .tuple #[T.val (.mk 5 0 ⟨#[]⟩ tl) (.slice A2 tl.length k2), .int .i64 0]) (by simp [results, Try.results5, go_sem, z0, z1, z2, z3, T.k, T.n, T.s]) rfl ⟨copies.four_below B2.below (by omega) _ _ _ _, A2, k2, rfl, ?_, ?_, ?_⟩
    · refine hH.move b1.size (by simp) fun p p1 p2 => ?_
      exact copies.four_cell w2 (w.heap.size + 2) 0 _ _ _ _ p (by omega)
    · exact ⟨by show (-9223372036854775808 : Int) ≤ 5 ∧ (5 : Int) ≤ 9223372036854775807; decide, by show (0 : Int) ≤ 0 ∧ (0 : Int) < 18446744073709551616; decide, Nat.zero_le maxLen⟩
    · exact HR5.out.move b1.size (by simp) fun k k1 k2 => copies.four_heap w2 (w.heap.size + 2) 0 _ _ _ _ k (by omega)
  · rw [if_pos hz]
    have d1 : (n != 0) = true := by simpa using hz
    clear hz ho hkns
    go_enter Try.func5, Try.ntmps5
    go_wp2_with fail
    refine hc.mono ?_
    rintro x w1 ⟨rfl, hb1⟩
    have T1 := T0.next hb1
    clear hb1 T0 hc
    obtain ⟨B1, hR⟩ := T1
    have z0 := hR.cell 0
    have z1 := hR.cell 1
    have z2 := hR.cell 2
    have z3 := hR.cell 3
    simp at z0 z1 z2 z3
    have f0 := hR.frozen 0
    have f1 := hR.frozen 1
    have f2 := hR.frozen 2
    have f3 := hR.frozen 3
    have hs1 := hR.lt
    go_wp2_with fail
    refine bodyPost_ret (v := .tuple #[T.val boxes.zT (.slice none 0 0), .int .i64 n]) (by simp [results, Try.results5, go_sem, z0, z1, z2, z3, boxes.zT, T.k, T.n, T.s]) rfl ⟨copies.four_below B1.below (by omega) _ _ _ _, none, 0, rfl, Held.nil _ _ _, boxes.fits_z, .inl rfl⟩

set_option maxRecDepth 100000 in
set_option maxHeartbeats 1000000 in
theorem ownTerm2_inner (a b c d e f h : Int) (es : List E) (ks : List K) (A : Option Addr) (cap : Nat) (A' : Option Addr) (cap' : Nat) (w : World) (hv : Es w w.heap.size es A cap) (hk : Ks w w.heap.size ks A' cap') :
    Calls Try.prog 5 #[.agg #[.int .i64 a, .int .i64 b, .int .i64 c, .int .i64 d, .int .i64 e, .int .i64 f, .int .i64 h], .agg #[.bool false, .slice A es.length cap, .slice A' ks.length cap']] w (Ans2 w (termP a b c d e f h false es ks)) := by
  have T0 := Tx.new w a b c d e f h false (.slice A es.length cap) (.slice A' ks.length cap')
  have hsz := T0.2.lt
  have hc := ownNode_any a b c d e f h false es ks A cap A' cap' _ (hv.at_world T0.1.below) (hk.at_world T0.1.below)
  have ho := fun (hz : ndbad a b c d e f h false es ks = 0) wr (hb : Below w.heap.size w wr) => ownOf2_inner (es := es) (ks := ks) hz A cap A' cap' wr (hk.at_world hb)
  have hkns := nodeT_kns false es ks
  unfold termP
  generalize ndbad a b c d e f h false es ks = n at hc ho ⊢
  generalize nodeT false es ks = t at ho hkns ⊢
  clear hv hk
  generalize es.length = ne at T0 hc ho hsz ⊢
  generalize ks.length = nk at T0 hc ho hsz ⊢
  by_cases hz : n = 0
  · have ho2 := ho hz
    clear ho
    rw [if_neg (by simpa using hz)]
    subst hz
    obtain ⟨tk, tn, ts, tl⟩ := t
    obtain ⟨q1, q2, q3⟩ := hkns
    cases (show tk = 5 from q1)
    cases (show tn = 0 from q2)
    cases (show ts = ⟨#[]⟩ from q3)
    clear q1 q2 q3
    go_enter Try.func5, Try.ntmps5
    go_wp2_with fail
    refine hc.mono ?_
    rintro x w1 ⟨rfl, hb1⟩
    have T1 := T0.next hb1
    clear hb1 T0 hc
    obtain ⟨⟨⟨⟨c0, c1, c2, c3, c4, c5, c6⟩, l1, l2, b1⟩, ⟨n0, n1, n2⟩, l3⟩, hR⟩ := id T1
    go_wp2_with fail
    refine (ho2 _ b1).mono ?_
    rintro x w2 ⟨A2, k2, rfl, hH, hb2, hR0⟩
    have HR5 := vers.lay hR0
    clear hR0
    have T2 := T1.next hb2
    clear c0 c1 c2 c3 c4 c5 c6 l1 l2 n0 n1 n2 l3 hR ho2
    obtain ⟨B2, hR⟩ := T2
    have z0 := hR.cell 0
    have z1 := hR.cell 1
    have z2 := hR.cell 2
    have z3 := hR.cell 3
    simp at z0 z1 z2 z3
    have f0 := hR.frozen 0
    have f1 := hR.frozen 1
    have f2 := hR.frozen 2
    have f3 := hR.frozen 3
    have hs1 := T1.2.lt
    have hs2 := hb2.size
    simp only [T.val, T.k, T.n, T.s, T.l] at hH ⊢
    go_wp2_with fail
    refine bodyPost_ret (v := .tuple #[T.val (.mk 5 0 ⟨#[]⟩ tl) (.slice A2 tl.length k2), .int .i64 0]) (by simp [results, Try.results5, go_sem, z0, z1, z2, z3, T.k, T.n, T.s]) rfl ⟨copies.four_below B2.below (by omega) _ _ _ _, A2, k2, rfl, ?_, ?_, ?_⟩
    · refine hH.move b1.size (by simp) fun p p1 p2 => ?_
      exact copies.four_cell w2 (w.heap.size + 2) 0 _ _ _ _ p (by omega)
    · exact ⟨by show (-9223372036854775808 : Int) ≤ 5 ∧ (5 : Int) ≤ 9223372036854775807; decide, by show (0 : Int) ≤ 0 ∧ (0 : Int) < 18446744073709551616; decide, Nat.zero_le maxLen⟩
    · exact HR5.out.move b1.size (by simp) fun k k1 k2 => copies.four_heap w2 (w.heap.size + 2) 0 _ _ _ _ k (by omega)
  · rw [if_pos hz]
    have d1 : (n != 0) = true := by simpa using hz
    clear hz ho hkns
    go_enter Try.func5, Try.ntmps5
    go_wp2_with fail
    refine hc.mono ?_
    rintro x w1 ⟨rfl, hb1⟩
    have T1 := T0.next hb1
    clear hb1 T0 hc
    obtain ⟨B1, hR⟩ := T1
    have z0 := hR.cell 0
    have z1 := hR.cell 1
    have z2 := hR.cell 2
    have z3 := hR.cell 3
    simp at z0 z1 z2 z3
    have f0 := hR.frozen 0
    have f1 := hR.frozen 1
    have f2 := hR.frozen 2
    have f3 := hR.frozen 3
    have hs1 := hR.lt
    go_wp2_with fail
    refine bodyPost_ret (v := .tuple #[T.val boxes.zT (.slice none 0 0), .int .i64 n]) (by simp [results, Try.results5, go_sem, z0, z1, z2, z3, boxes.zT, T.k, T.n, T.s]) rfl ⟨copies.four_below B1.below (by omega) _ _ _ _, none, 0, rfl, Held.nil _ _ _, boxes.fits_z, .inl rfl⟩

end Go.Proofs.Ytnkfboplafckoaa.nodes

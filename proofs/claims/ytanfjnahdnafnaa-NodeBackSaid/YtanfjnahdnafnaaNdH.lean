/- letheref06's Of: the term of a node that may be. -/
import Derived.Test.YtanfjnahdnafnaaNdG


namespace Go.Proofs.Ytanfjnahdnafnaa.nodes
set_option linter.unusedVariables false
set_option linter.unusedSimpArgs false
open Go.RowKit Go.Proofs.Ytanfjnahdnafnaa.base Go.Proofs.Ytanfjnahdnafnaa.quotas Go.Proofs.Ytanfjnahdnafnaa.vers Go.Proofs.Ytanfjnahdnafnaa.tm Go.Proofs.Ytanfjnahdnafnaa.lies Go.Proofs.Ytanfjnahdnafnaa.copies Go.Proofs.Ytanfjnahdnafnaa.makes Go.Proofs.Ytanfjnahdnafnaa.built

/-- behind Of's beginning: the node's box and the answer's -/
def Ox (w : World) (lf : Bool) (u u' : Value) (wr : World) : Prop :=
  (wr.cell? ⟨w.heap.size, 0, none⟩ = some (.bool lf) ∧ wr.cell? ⟨w.heap.size, 1, none⟩ = some u ∧ wr.cell? ⟨w.heap.size, 2, none⟩ = some u') ∧ Blk wr (w.heap.size + 1) 38 #[.int .i64 0, .int .u64 0, .string ⟨#[]⟩, .slice none 0 0] ∧ Below w.heap.size w wr
theorem Ox.new (w : World) (lf : Bool) (u u' : Value) : Ox w lf u u' ((w.alloc (.cells #[.bool lf, u, u'] 27)).alloc (.cells #[.int .i64 0, .int .u64 0, .string ⟨#[]⟩, .slice none 0 0] 38)) := by
  have k1 := (Blk.new w 27 #[.bool lf, u, u']).alloc (.cells #[.int .i64 0, .int .u64 0, .string ⟨#[]⟩, .slice none 0 0] 38)
  have k2 := Blk.new (w.alloc (.cells #[.bool lf, u, u'] 27)) 38 #[.int .i64 0, .int .u64 0, .string ⟨#[]⟩, .slice none 0 0]
  rw [World.size_alloc] at k2
  exact ⟨⟨k1.cell 0, k1.cell 1, k1.cell 2⟩, k2, ((Below.refl _ _).alloc (Nat.le_refl _) _).alloc (by simp) _⟩
theorem Ox.next {w wr w' : World} {lf : Bool} {u u' : Value} (h : Ox w lf u u' wr) {B : Nat} (hB : w.heap.size + 2 ≤ B) (hb : Below B wr w') : Ox w lf u u' w' := by
  obtain ⟨⟨a, b, c⟩, k, hw⟩ := h
  refine ⟨⟨?_, ?_, ?_⟩, k.below hb (by omega), hw.trans (hb.mono (by omega))⟩ <;> (rw [hb.cell (by simp; omega)]; assumption)
theorem len5 {n : Nat} (h : n ≤ 5) : (n + 1) * 56 ≤ 140737488355328 := Nat.le_trans (Nat.mul_le_mul_right 56 (show n + 1 ≤ 6 by omega)) (by decide)
/-- how an answered term lies -/
def TAns (w : World) (t : T) (e : Ending) (w' : World) : Prop := ∃ A c, e = .returned (T.val t (.slice A t.l.length c)) ∧ Held w' w.heap.size w'.heap.size t.l (.slice A t.l.length c) ∧ Below w.heap.size w w'

set_option maxRecDepth 100000 in
set_option maxHeartbeats 1000000 in
theorem of_leaf (es : List E) (A : Option Addr) (cap : Nat) (Q : Option Addr) (nq m : Nat) (w : World) (hv : Es w w.heap.size es A cap) (h4 : es.length ≤ 4) (hn : ∀ x ∈ es, x.l.length ≤ 4 ∧ ∀ y ∈ x.l, 0 ≤ y.n) :
    Calls Try.prog 39 #[.agg #[.bool true, .slice A es.length cap, .slice Q nq m]] w (TAns w (rowT (numT 1 :: es.map entT))) := by
  have E0 := Ox.new w true (.slice A es.length cap) (.slice Q nq m)
  go_enter Try.func39, Try.ntmps39
  go_wp2_with (go_at_call 73; refine (refNum_any _ _ (by decide)).mono ?_; rintro e w1 ⟨rfl, hb1⟩; have E1 := E0.next (by simp) hb1; have hz1 := hb1.size; obtain ⟨⟨e0, e1, e2⟩, kb, bw⟩ := id E1; simp only [World.size_alloc] at hz1; have lt0 : w.heap.size < w1.heap.size := by omega)
  have hB1 := built_bare (w := w1) (lo := w.heap.size + 2) (bare_num (n := 1) (by decide)) (by omega)
  have E2 := E1.next (by omega) ((Below.refl w1.heap.size w1).alloc (Nat.le_refl _) (.cells (bareL [numT 1]).toArray 38))
  clear E0 E1 hb1 e0 e1 e2 kb bw
  go_loopw [3, 16] (fun v i wr => ∃ j : Nat, j ≤ es.length ∧ i = .int .i64 j ∧ Built (w.heap.size + 2) wr (numT 1 :: (es.take j).map entT) v ∧ Ox w true (.slice A es.length cap) (.slice Q nq m) wr ∧ w.heap.size + 2 ≤ wr.heap.size) (fun _ i _ => es.length - (intOf i).toNat)
  case atStart => exact ⟨0, Nat.zero_le _, rfl, hB1, E2, by simp; omega⟩
  case round =>
    clear hB1 E2 lt0 hz1
    obtain ⟨j, hj, rfl, hB, hE, hz⟩ := hrel
    obtain ⟨⟨e0, e1, e2⟩, kb, bw⟩ := id hE
    by_cases hlt : j < es.length
    · obtain ⟨bk, off, rfl, hbk, v0, v1, hVs⟩ := (hv.below bw).at_ hlt
      have hfx := (hv.2.2.2.2 _ (List.getElem_mem hlt)).2
      have hx4 := hn _ (List.getElem_mem hlt)
      have hvl : es[j].l.length ≤ 140737488355328 := by omega
      have hc := refEntry_any es[j].s es[j].l es[j].A es[j].c (wr.alloc (.cells #[.string es[j].s, .slice es[j].A es[j].l.length es[j].c] 61)) (((hv.2.2.2.2 _ (List.getElem_mem hlt)).1.below (bw.alloc bw.size _)).more (by have := bw.size; simp; omega)) hfx hx4.2 (Nat.le_trans (Nat.mul_le_mul_right 56 (show es[j].l.length + 2 ≤ 6 by omega)) (by decide))
      have hF : T.k (entT es[j]) = 5 := rfl
      clear hVs hx4 hfx
      have htk : Hid ((es.take (j + 1)).map entT = (es.take j).map entT ++ [entT es[j]]) := vers.lay (by rw [List.take_succ_eq_append_getElem hlt, List.map_append, List.map_singleton])
      have hown := fun k hk => (hB.own k hk).2
      have hlen56 : Hid (((numT 1 :: (es.take j).map entT).length + 1) * 56 ≤ 140737488355328) := vers.lay (len5 (by rw [List.length_cons, List.length_map, List.length_take]; omega))
      have D1 : Below wr.heap.size wr (wr.alloc (.cells #[.string es[j].s, .slice es[j].A es[j].l.length es[j].c] 61)) := (Below.refl _ _).alloc (Nat.le_refl _) _
      go_wp2_with fail
      refine hc.mono ?_
      rintro e w3 ⟨A3, c3, rfl, hH, hb3⟩
      have D3 := D1.trans (hb3.mono D1.size)
      have hB3 := hB.below D3
      have hz3 := D3.size
      have hlo3 : w.heap.size + 2 ≤ w3.heap.size := Nat.le_trans hz hz3
      have hz4 := hb3.size
      simp only [World.size_alloc] at hz4 hH
      have hH : Held w3 (wr.heap.size + 1) w3.heap.size (entT es[j]).l (.slice A3 (es[j].l.length + 1) c3) := by
        rw [show es[j].l.length + 1 = (atomT es[j].s :: es[j].l.map verT).length by simp]
        exact hH
      have hlo2 : w.heap.size + 2 ≤ wr.heap.size + 1 := Nat.le_succ_of_le hz
      have hown2 := fun k hk => Nat.lt_succ_of_lt (hown k hk)
      have hle56 := hlen56.out
      have k1 : -9223372036854775808 ≤ (entT es[j]).k ∧ (entT es[j]).k ≤ 9223372036854775807 := by show (-9223372036854775808 : Int) ≤ 5 ∧ (5 : Int) ≤ 9223372036854775807; decide
      have k2 : 0 ≤ (entT es[j]).n ∧ (entT es[j]).n < 18446744073709551616 := by show (0 : Int) ≤ 0 ∧ (0 : Int) < 18446744073709551616; decide
      have k3 : (entT es[j]).s.size ≤ maxLen := Nat.zero_le maxLen
      clear hc D1 hlen56
      go_wp2_with (at_builtin; go_loud (refine wpList_append_term rfl _ _ rfl (t := entT es[j]) rfl hB3 rfl hlo3 hH (Nat.le_refl _) hlo2 hown2 k1 k2 k3 rfl (by simp) hle56 ?next))
      case next =>
        intro v4 w4 hB4 hb4 hz5 _
        have D4 : Below (w.heap.size + 2) wr w4 := (D3.mono hz).trans hb4
        go_wp2_with fail
        exact ⟨⟨j + 1, hlt, by go_num, by rw [htk.out]; simpa using hB4, hE.next (Nat.le_refl _) D4, by omega⟩, by simp [intOf]; omega⟩
    · have htk : es.take j = es := List.take_of_length_le (by omega)
      rw [htk] at hB
      have hlm : (numT 1 :: es.map entT).length = es.length + 1 := by simp
      have hH := hB.held (by rw [hlm]; exact len5 (by omega))
      obtain ⟨A3, c3, rfl, hc3⟩ := hB.form
      clear hB htk hc3
      generalize hts : numT 1 :: es.map entT = ts at hH hlm ⊢
      have HTS := vers.lay hts
      clear hts
      have lt1 := kb.lt
      have hbs := bw.size
      generalize hnt : ts.length = nt at hH ⊢
      have HNT := vers.lay hnt
      clear hnt
      go_wp2_with fail
      refine (refRow_any _ _ _ _).mono ?_
      rintro e w5 ⟨rfl, hb5⟩
      have kb2 := kb.below hb5 lt1
      have hz5 := hb5.size
      have z0 := kb2.cell 0
      have z1 := kb2.cell 1
      have z2 := kb2.cell 2
      have z3 := kb2.cell 3
      simp at z0 z1 z2 z3
      have f0 := kb2.frozen 0
      have f1 := kb2.frozen 1
      have f2 := kb2.frozen 2
      have f3 := kb2.frozen 3
      go_wp2_with fail
      refine bodyPost_ret (v := T.val (rowT ts) (.slice A3 nt c3)) (by simp [results, Try.results39, go_sem, z0, z1, z2, z3, rowT, T.k, T.n, T.s]) rfl ?_
      have hts := HTS.out
      have hnt := HNT.out
      subst hts
      subst hnt
      refine ⟨_, _, rfl, ?_, ?_⟩
      · refine hH.move (by omega) (by simp; omega) fun p p1 p2 => ?_
        exact (four_cell w5 (w.heap.size + 1) 0 _ _ _ _ p (by omega)).trans (hb5.cell p2)
      · exact four_below (bw.trans (hb5.mono hbs)) (by omega) _ _ _ _

set_option maxRecDepth 100000 in
set_option maxHeartbeats 1000000 in
theorem of_inner (ks : List K) (A : Option Addr) (cap : Nat) (Q : Option Addr) (nq m : Nat) (w : World) (hv : Ks w w.heap.size ks A cap) (h4 : ks.length ≤ 4) (hn : ∀ x ∈ ks, refOk x.g x.o x.n) :
    Calls Try.prog 39 #[.agg #[.bool false, .slice Q nq m, .slice A ks.length cap]] w (TAns w (rowT (numT 2 :: ks.map kidT))) := by
  have E0 := Ox.new w false (.slice Q nq m) (.slice A ks.length cap)
  go_enter Try.func39, Try.ntmps39
  go_wp2_with (go_at_call 73; refine (refNum_any _ _ (by decide)).mono ?_; rintro e w1 ⟨rfl, hb1⟩; have E1 := E0.next (by simp) hb1; have hz1 := hb1.size; obtain ⟨⟨e0, e1, e2⟩, kb, bw⟩ := id E1; simp only [World.size_alloc] at hz1; have lt0 : w.heap.size < w1.heap.size := by omega)
  have hB1 := built_bare (w := w1) (lo := w.heap.size + 2) (bare_num (n := 2) (by decide)) (by omega)
  have E2 := E1.next (by omega) ((Below.refl w1.heap.size w1).alloc (Nat.le_refl _) (.cells (bareL [numT 2]).toArray 38))
  clear E0 E1 hb1 e0 e1 e2 kb bw
  go_loopw [6, 33] (fun v i wr => ∃ j : Nat, j ≤ ks.length ∧ i = .int .i64 j ∧ Built (w.heap.size + 2) wr (numT 2 :: (ks.take j).map kidT) v ∧ Ox w false (.slice Q nq m) (.slice A ks.length cap) wr ∧ w.heap.size + 2 ≤ wr.heap.size) (fun _ i _ => ks.length - (intOf i).toNat)
  case atStart => exact ⟨0, Nat.zero_le _, rfl, hB1, E2, by simp; omega⟩
  case round =>
    clear hB1 E2 lt0 hz1
    obtain ⟨j, hj, rfl, hB, hE, hz⟩ := hrel
    obtain ⟨⟨e0, e1, e2⟩, kb, bw⟩ := id hE
    by_cases hlt : j < ks.length
    · obtain ⟨bk, off, rfl, hbk, v0, v1, v2, v3, v4⟩ := (hv.below bw).at_ hlt
      have hfx := hv.2.2.2.2 _ (List.getElem_mem hlt)
      have hc := refKid_any ks[j] (wr.alloc (.cells #[.string ks[j].s, .int .u64 (ks[j].k : Int), .int .i64 ks[j].g, .int .i64 ks[j].o, .int .i64 ks[j].n] 57)) hfx (hn _ (List.getElem_mem hlt))
      clear hfx
      have htk : Hid ((ks.take (j + 1)).map kidT = (ks.take j).map kidT ++ [kidT ks[j]]) := vers.lay (by rw [List.take_succ_eq_append_getElem hlt, List.map_append, List.map_singleton])
      have hown := fun k hk => (hB.own k hk).2
      have hlen56 : Hid (((numT 2 :: (ks.take j).map kidT).length + 1) * 56 ≤ 140737488355328) := vers.lay (len5 (by rw [List.length_cons, List.length_map, List.length_take]; omega))
      have D1 : Below wr.heap.size wr (wr.alloc (.cells #[.string ks[j].s, .int .u64 (ks[j].k : Int), .int .i64 ks[j].g, .int .i64 ks[j].o, .int .i64 ks[j].n] 57)) := (Below.refl _ _).alloc (Nat.le_refl _) _
      go_wp2_with fail
      refine hc.mono ?_
      rintro e w3 ⟨A3, c3, rfl, hH, hb3⟩
      have D3 := D1.trans (hb3.mono D1.size)
      have hB3 := hB.below D3
      have hz3 := D3.size
      have hlo3 : w.heap.size + 2 ≤ w3.heap.size := Nat.le_trans hz hz3
      have hz4 := hb3.size
      simp only [World.size_alloc] at hz4 hH
      have hH : Held w3 (wr.heap.size + 1) w3.heap.size (kidT ks[j]).l (.slice A3 5 c3) := hH
      have hlo2 : w.heap.size + 2 ≤ wr.heap.size + 1 := Nat.le_succ_of_le hz
      have hown2 := fun k hk => Nat.lt_succ_of_lt (hown k hk)
      have hle56 := hlen56.out
      have k1 : -9223372036854775808 ≤ (kidT ks[j]).k ∧ (kidT ks[j]).k ≤ 9223372036854775807 := by show (-9223372036854775808 : Int) ≤ 5 ∧ (5 : Int) ≤ 9223372036854775807; decide
      have k2 : 0 ≤ (kidT ks[j]).n ∧ (kidT ks[j]).n < 18446744073709551616 := by show (0 : Int) ≤ 0 ∧ (0 : Int) < 18446744073709551616; decide
      have k3 : (kidT ks[j]).s.size ≤ maxLen := Nat.zero_le maxLen
      clear hc D1 hlen56
      go_wp2_with (at_builtin; go_loud (refine wpList_append_term rfl _ _ rfl (t := kidT ks[j]) rfl hB3 rfl hlo3 hH (Nat.le_refl _) hlo2 hown2 k1 k2 k3 rfl (by simp) hle56 ?next))
      case next =>
        intro v4 w4 hB4 hb4 hz5 _
        have D4 : Below (w.heap.size + 2) wr w4 := (D3.mono hz).trans hb4
        go_wp2_with fail
        exact ⟨⟨j + 1, hlt, by go_num, by rw [htk.out]; simpa using hB4, hE.next (Nat.le_refl _) D4, by omega⟩, by simp [intOf]; omega⟩
    · have htk : ks.take j = ks := List.take_of_length_le (by omega)
      rw [htk] at hB
      have hlm : (numT 2 :: ks.map kidT).length = ks.length + 1 := by simp
      have hH := hB.held (by rw [hlm]; exact len5 (by omega))
      obtain ⟨A3, c3, rfl, hc3⟩ := hB.form
      clear hB htk hc3
      generalize hts : numT 2 :: ks.map kidT = ts at hH hlm ⊢
      have HTS := vers.lay hts
      clear hts
      have lt1 := kb.lt
      have hbs := bw.size
      generalize hnt : ts.length = nt at hH ⊢
      have HNT := vers.lay hnt
      clear hnt
      go_wp2_with fail
      refine (refRow_any _ _ _ _).mono ?_
      rintro e w5 ⟨rfl, hb5⟩
      have kb2 := kb.below hb5 lt1
      have hz5 := hb5.size
      have z0 := kb2.cell 0
      have z1 := kb2.cell 1
      have z2 := kb2.cell 2
      have z3 := kb2.cell 3
      simp at z0 z1 z2 z3
      have f0 := kb2.frozen 0
      have f1 := kb2.frozen 1
      have f2 := kb2.frozen 2
      have f3 := kb2.frozen 3
      go_wp2_with fail
      refine bodyPost_ret (v := T.val (rowT ts) (.slice A3 nt c3)) (by simp [results, Try.results39, go_sem, z0, z1, z2, z3, rowT, T.k, T.n, T.s]) rfl ?_
      have hts := HTS.out
      have hnt := HNT.out
      subst hts
      subst hnt
      refine ⟨_, _, rfl, ?_, ?_⟩
      · refine hH.move (by omega) (by simp; omega) fun p p1 p2 => ?_
        exact (four_cell w5 (w.heap.size + 1) 0 _ _ _ _ p (by omega)).trans (hb5.cell p2)
      · exact four_below (bw.trans (hb5.mono hbs)) (by omega) _ _ _ _

end Go.Proofs.Ytanfjnahdnafnaa.nodes

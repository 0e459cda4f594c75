/- The law's spoil: a node that is written over. -/
import Derived.Test.YthmamlghmagmkaaCcK


namespace Go.Proofs.Ythmamlghmagmkaa.caches
set_option linter.unusedVariables false
set_option linter.unusedSimpArgs false
open Go.RowKit Go.Proofs.Ythmamlghmagmkaa.base Go.Proofs.Ythmamlghmagmkaa.vers Go.Proofs.Ythmamlghmagmkaa.nodes Go.Proofs.Ythmamlghmagmkaa.trees

def RowI (w : World) (t : TypeId) (k : Nat) (A : Option Addr) (n lo hi : Nat) : Prop := n = 0 ∨ ∃ g cs, A = some ⟨g, 0, none⟩ ∧ (lo ≤ g ∧ g < hi) ∧ Blk w g t cs ∧ n * k ≤ cs.size
theorem blk_set {w : World} {g : Nat} {t : TypeId} {cs : Array Value} (h : Blk w g t cs) (b o : Nat) (u : Value) : ∃ cs', Blk (w.setCell ⟨b, o, none⟩ u) g t cs' ∧ cs'.size = cs.size := by
  by_cases e : g = b
  · subst e; exact ⟨_, h.put o u, by simp⟩
  · exact ⟨cs, h.far (p := ⟨b, o, none⟩) e u, rfl⟩
theorem RowI.set {w : World} {t : TypeId} {k lo hi : Nat} {A : Option Addr} {n : Nat} (h : RowI w t k A n lo hi) (b o : Nat) (u : Value) : RowI (w.setCell ⟨b, o, none⟩ u) t k A n lo hi := by
  rcases h with h | ⟨g, cs, e, hp, hb, hs⟩
  · exact .inl h
  · obtain ⟨cs', h1, h2⟩ := blk_set hb b o u
    exact .inr ⟨g, cs', e, hp, h1, by omega⟩
theorem RowI.below {w w' : World} {t : TypeId} {k lo hi : Nat} {A : Option Addr} {n : Nat} (h : RowI w t k A n lo hi) (hb : Below hi w w') : RowI w' t k A n lo hi := by
  rcases h with h | ⟨g, cs, e, hp, hk, hs⟩
  · exact .inl h
  · exact .inr ⟨g, cs, e, hp, (hb.block g hp.2).trans hk, hs⟩
theorem RowI.of {w : World} {t : TypeId} {k b n lo hi : Nat} {A : Option Addr} {c : Nat} {xs : List Value} (h : w.ownsRow b t k (.slice A n c) n xs) (hp : ∀ g, (Value.slice A n c).ownBlock = some g → lo ≤ g ∧ g < hi) : RowI w t k A n lo hi := by
  obtain ⟨hx, h1⟩ := h
  rcases h1 with ⟨e, hn⟩ | ⟨g, cap, cur, e, hg, hb, hc, h2, hs, ht⟩
  · exact .inl hn
  · injection e with e1 e2 e3
    subst e1 e3
    exact .inr ⟨g, cur, rfl, hp g rfl, hb, by rw [hs]; exact Nat.mul_le_mul_right _ hc⟩
/-- a node's secrets and kids, of rows in the blocks lo .. hi -/
structure NW (lo hi : Nat) (x : N) (wr : World) : Prop where
  row : x.es.length = 0 ∨ ∃ g cs, x.A = some ⟨g, 0, none⟩ ∧ (lo ≤ g ∧ g < hi) ∧ Blk wr g 47 cs ∧ x.es.length * 2 ≤ cs.size ∧ ∀ i (h : i < x.es.length), cs[i * 2 + 1]? = some (.slice x.es[i].A x.es[i].l.length x.es[i].c)
  vers : ∀ y ∈ x.es, RowI wr 173 3 y.A y.l.length lo hi
  kids : RowI wr 66 5 x.Q x.ks.length lo hi
theorem blk_ne {w : World} {g g' : Nat} {t t' : TypeId} {cs cs' : Array Value} (h : Blk w g t cs) (h' : Blk w g' t' cs') (ht : t ≠ t') : g ≠ g' := fun e => by
  subst e
  unfold Blk at h h'
  rw [h] at h'
  injection h' with h'
  injection h' with _ h'
  exact ht h'
theorem NW.far {lo hi : Nat} {x : N} {wr : World} (h : NW lo hi x wr) {b : Nat} {t : TypeId} {cs : Array Value} (hb : Blk wr b t cs) (ht : t ≠ 47) (o : Nat) (u : Value) : NW lo hi x (wr.setCell ⟨b, o, none⟩ u) := by
  obtain ⟨h2, h3, h4⟩ := h
  refine ⟨?_, fun y hy => (h3 y hy).set b o u, h4.set b o u⟩
  rcases h2 with h2 | ⟨g, cs2, e, hpg, hbg, hs, hsl⟩
  · exact .inl h2
  · exact .inr ⟨g, cs2, e, hpg, hbg.far (p := ⟨b, o, none⟩) (blk_ne hbg hb (fun e => ht e.symm)) u, hs, hsl⟩
theorem NW.name {lo hi : Nat} {x : N} {wr : World} (h : NW lo hi x wr) (b i : Nat) (u : Value) : NW lo hi x (wr.setCell ⟨b, i * 2, none⟩ u) := by
  obtain ⟨h2, h3, h4⟩ := h
  refine ⟨?_, fun y hy => (h3 y hy).set b _ u, h4.set b _ u⟩
  rcases h2 with h2 | ⟨g, cs2, e, hpg, hbg, hs, hsl⟩
  · exact .inl h2
  · by_cases hgb : g = b
    · subst hgb
      refine .inr ⟨g, _, e, hpg, hbg.put (i * 2) u, by simpa using hs, fun j hj => ?_⟩
      rw [Array.getElem?_setIfInBounds, if_neg (by omega)]
      exact hsl j hj
    · exact .inr ⟨g, cs2, e, hpg, hbg.far (p := ⟨b, i * 2, none⟩) hgb u, hs, hsl⟩
theorem NW.below {lo hi : Nat} {x : N} {wr w' : World} (h : NW lo hi x wr) (hb : Below hi wr w') : NW lo hi x w' := by
  obtain ⟨h2, h3, h4⟩ := h
  refine ⟨?_, fun y hy => (h3 y hy).below hb, h4.below hb⟩
  rcases h2 with h2 | ⟨g, cs2, e, hpg, hbg, hs, hsl⟩
  · exact .inl h2
  · exact .inr ⟨g, cs2, e, hpg, (hb.block g hpg.2).trans hbg, hs, hsl⟩
theorem NW.of {lo hi : Nat} {x : N} {w : World} {F : Nat → Prop} (h : OwnNF w F x) (hF : ∀ g, F g → lo ≤ g ∧ g < hi) : NW lo hi x w := by
  obtain ⟨h1, h2, h3⟩ := h
  refine ⟨?_, fun y hy => RowI.of (h1.2.2.2 y hy).1.1 (fun g hg => hF g ((h1.2.2.2 y hy).1.2.2.2 g hg).1), RowI.of h2.1 (fun g hg => hF g (h2.2.2.1 g hg))⟩
  obtain ⟨hx, h4⟩ := h1.1
  rcases h4 with ⟨_, hn⟩ | ⟨g, cap, cur, e, hg, hb, hc, h2', hs, ht⟩
  · exact .inl hn
  · injection e with e1 e2 e3
    subst e3
    refine .inr ⟨g, cur, e1, hF g (h1.2.2.1 g (by rw [e1]; rfl)), hb, by rw [hs]; exact Nat.mul_le_mul_right _ hc, fun i hi => ?_⟩
    have h5 := (cellsE_at x.es hi).2
    rw [← ht, List.getElem?_take] at h5
    split at h5
    · rw [show i * 2 + 1 = 2 * i + 1 by omega]; simpa using h5
    · cases h5
/-- nodes in the blocks lo .. hi, which alone have turned -/
structure SpI (w : World) (lo hi : Nat) (L : List N) (wr : World) : Prop where
  keep : Keep (fun g => lo ≤ g ∧ g < hi) w wr
  nodes : ∀ y ∈ L, NW lo hi y wr
  seen : ∀ g cs, Blk w g 135 cs → Blk wr g 135 cs
theorem keep_set {w0 wr : World} {P : Nat → Prop} (h1 : Keep P w0 wr) {b : Nat} (hb : P b) (o : Nat) (u : Value) : Keep P w0 (wr.setCell ⟨b, o, none⟩ u) :=
  ⟨h1.os, h1.tape, h1.output, by simpa using h1.size, fun k hk hn => by
    rw [Below.heap_setCell _ _ _ _ (by simp; exact fun e => hn (e ▸ hb))]
    exact h1.block k hk hn⟩
theorem SpI.far {w wr : World} {lo hi : Nat} {L : List N} (h : SpI w lo hi L wr) {b : Nat} {t : TypeId} {cs : Array Value} (hb : Blk wr b t cs) (ht : t ≠ 47) (ht2 : t ≠ 135) (hp : lo ≤ b ∧ b < hi) (o : Nat) (u : Value) : SpI w lo hi L (wr.setCell ⟨b, o, none⟩ u) :=
  ⟨keep_set h.keep hp o u, fun y hy => (h.nodes y hy).far hb ht o u, fun g cs hg => (h.seen g cs hg).far (p := ⟨b, o, none⟩) (blk_ne (h.seen g cs hg) hb (fun e => ht2 e.symm)) u⟩
theorem SpI.name {w wr : World} {lo hi : Nat} {L : List N} (h : SpI w lo hi L wr) {b : Nat} {cs : Array Value} (hb : Blk wr b 47 cs) (hp : lo ≤ b ∧ b < hi) (i : Nat) (u : Value) : SpI w lo hi L (wr.setCell ⟨b, i * 2, none⟩ u) :=
  ⟨keep_set h.keep hp _ u, fun y hy => (h.nodes y hy).name b i u, fun g cs hg => (h.seen g cs hg).far (p := ⟨b, i * 2, none⟩) (blk_ne (h.seen g cs hg) hb (by decide)) u⟩

theorem SpI.next {w wr w' : World} {lo hi : Nat} {L : List N} (h : SpI w lo hi L wr) (hb : Below wr.heap.size wr w') (hhi : hi ≤ wr.heap.size) : SpI w lo hi L w' :=
  ⟨h.keep.seq hb, fun y hy => (h.nodes y hy).below (hb.mono hhi), fun g cs hg => (h.seen g cs hg).below hb (h.seen g cs hg).lt⟩
theorem SpI.trans {w wr w' : World} {lo hi : Nat} {L : List N} (h : SpI w lo hi L wr) (k : SpI wr lo hi L w') : SpI w lo hi L w' :=
  ⟨h.keep.trans k.keep (fun g hg _ => hg), k.nodes, fun g cs hg => k.seen g cs (h.seen g cs hg)⟩
theorem row_seen {w w' : World} {v : Value} {n : Nat} {xs : List Value} (h : w.ownsRow 0 135 8 v n xs) (hs : ∀ g cs, Blk w g 135 cs → Blk w' g 135 cs) : w'.ownsRow 0 135 8 v n xs := by
  obtain ⟨hx, h1⟩ := h
  refine ⟨hx, ?_⟩
  rcases h1 with h1 | ⟨g, cap, cur, rfl, hg, hb, hr⟩
  · exact .inl h1
  · exact .inr ⟨g, cap, cur, rfl, hg, hs g cur hb, hr⟩
set_option maxRecDepth 100000 in
set_option maxHeartbeats 4000000 in
theorem spoil_ok (L : List N) (x : N) (hx : x ∈ L) (lo hi : Nat) (w : World) (hhi : hi ≤ w.heap.size) (hS : ∀ y ∈ L, NW lo hi y w) (hel : x.es.length * 40 ≤ 140737488355328) (hkl : x.ks.length * 48 ≤ 140737488355328) (hvl : ∀ y ∈ x.es, y.l.length * 40 ≤ 140737488355328) :
    Calls Try.prog 70 #[x.val] w fun e w' => e = .returned (.tuple #[]) ∧ SpI w lo hi L w' := by
  have HX := vers.lay hx
  have HVL := vers.lay hvl
  clear hx hvl
  obtain ⟨lf, es, ks, A, c, Q, m⟩ := x
  simp only [] at hel hkl
  have bX : Below w.heap.size w (w.alloc (.cells #[.bool lf, .slice A es.length c, .slice Q ks.length m] 60)) := (Below.refl _ _).alloc (Nat.le_refl _) _
  have kX := Blk.new w 60 #[.bool lf, .slice A es.length c, .slice Q ks.length m]
  have hI0 : SpI w lo hi L (w.alloc (.cells #[.bool lf, .slice A es.length c, .slice Q ks.length m] 60)) := ⟨Keep.of_below bX, fun y hy => (hS y hy).below (bX.mono hhi), fun g cs hg => hg.below bX hg.lt⟩
  clear hS
  generalize hWX : w.alloc (.cells #[.bool lf, .slice A es.length c, .slice Q ks.length m] 60) = WX at *
  have q1 := kX.cell 1
  simp only [List.getElem?_toArray, List.getElem?_cons_zero, List.getElem?_cons_succ] at q1
  have lX := kX.lt
  have hbx : ∀ wr, SpI w lo hi L wr → Keep (fun g => lo ≤ g ∧ g < hi) WX wr → Blk wr w.heap.size 60 #[.bool lf, .slice A es.length c, .slice Q ks.length m] := fun wr _ hk => hk.blk kX (by omega)
  have HBX := vers.lay hbx
  clear hbx
  go_enter Try.func70, Try.ntmps70
  go_wp2_with fail
  go_loopw [8] (fun i wr => ∃ j : Nat, j ≤ es.length ∧ i = .int .i64 (j : Int) ∧ Hid (SpI w lo hi L wr ∧ Keep (fun g => lo ≤ g ∧ g < hi) WX wr)) (fun i _ => es.length - (intOf i).toNat)
  case atStart => exact ⟨0, Nat.zero_le _, rfl, vers.lay ⟨hI0, Keep.refl _ _⟩⟩
  case round =>
    clear hI0 q1
    obtain ⟨j, hj, rfl, hI⟩ := hrel
    have kXr := HBX.out wr hI.out.1 hI.out.2
    have q1 := kXr.cell 1
    have q2 := kXr.cell 2
    simp only [List.getElem?_toArray, List.getElem?_cons_zero, List.getElem?_cons_succ] at q1 q2
    have lXr := kXr.lt
    by_cases hlt : j < es.length
    · obtain ⟨g, cs, eA, hg, hkg, hcs, hsl⟩ := ((hI.out.1.nodes _ HX.out).row).resolve_left (by show ¬ es.length = 0; omega)
      simp only [] at eA hcs hsl
      subst eA
      have hvr := (hI.out.1.nodes _ HX.out).vers _ (List.getElem_mem hlt)
      have hvl := HVL.out _ (List.getElem_mem hlt)
      have y1 := hkg.cell (j * 2 + 1)
      rw [hsl j hlt] at y1
      clear hsl
      obtain ⟨y, hy⟩ : ∃ y, y = es[j] := ⟨_, rfl⟩
      rw [← hy] at y1 hvr hvl
      have HY := vers.lay hy.symm
      clear hy
      obtain ⟨ys, yl, yA, yc⟩ := y
      simp only [] at y1 hvr hvl
      have hgl := hkg.lt
      have fN := hkg.frozen (j * 2)
      have cN : ∃ u, wr.cell? ⟨g, j * 2, none⟩ = some u := ⟨cs[j * 2]'(by omega), by rw [hkg.cell]; exact Array.getElem?_eq_getElem (by omega)⟩
      go_wp2_with fail
      go_loopw [18] (fun i wi => ∃ k : Nat, k ≤ yl.length ∧ i = .int .i64 (k : Int) ∧ Hid (SpI w lo hi L wi ∧ Keep (fun g => lo ≤ g ∧ g < hi) WX wi)) (fun i _ => yl.length - (intOf i).toNat)
      case atStart => exact ⟨0, Nat.zero_le _, rfl, hI⟩
      case round =>
        clear q1 q2 y1 hkg fN cN hcs hgl hvr kXr hI
        obtain ⟨k, hk, rfl, hI⟩ := hrel
        have kXr := HBX.out _ hI.out.1 hI.out.2
        have q1 := kXr.cell 1
        have q2 := kXr.cell 2
        simp only [List.getElem?_toArray, List.getElem?_cons_zero, List.getElem?_cons_succ] at q1 q2
        have lXr := kXr.lt
        obtain ⟨g2, cs2, e2, hg2, hkg2, hcs2, hsl2⟩ := ((hI.out.1.nodes _ HX.out).row).resolve_left (by show ¬ es.length = 0; omega)
        simp only [] at e2 hcs2 hsl2
        injection e2 with e2
        injection e2 with e2 _
        subst e2
        have y1 := hkg2.cell (j * 2 + 1)
        rw [hsl2 j hlt, HY.out] at y1
        simp only [] at y1
        have hgl := hkg2.lt
        clear hsl2
        by_cases hlk : k < yl.length
        · have hvr := (hI.out.1.nodes _ HX.out).vers _ (List.getElem_mem hlt)
          rw [HY.out] at hvr
          simp only [] at hvr
          obtain ⟨gv, csv, rfl, hgv, hkv, hcv⟩ := hvr.resolve_left (by omega)
          have hvl' := hkv.lt
          have fV := hkv.frozen (k * 3)
          have cV : ∃ u, wr.cell? ⟨gv, k * 3, none⟩ = some u := ⟨csv[k * 3]'(by omega), by rw [hkv.cell]; exact Array.getElem?_eq_getElem (by omega)⟩
          obtain ⟨uV, cV⟩ := cV
          have hF := hI.out.1.far hkv (by decide) (by decide) hgv (k * 3) (.int .i64 (-1))
          have hK := keep_set hI.out.2 hgv (k * 3) (.int .i64 (-1))
          clear hkv hI
          go_wp2_with fail
          exact ⟨⟨k + 1, hlk, by go_num, vers.lay ⟨hF, hK⟩⟩, by first | (simp [intOf]; done) | (simp [intOf]; omega) | omega⟩
        · obtain rfl : k = yl.length := by omega
          have fN := hkg2.frozen (j * 2)
          have cN : ∃ u, wr.cell? ⟨g, j * 2, none⟩ = some u := ⟨cs2[j * 2]'(by omega), by rw [hkg2.cell]; exact Array.getElem?_eq_getElem (by omega)⟩
          obtain ⟨uN, cN⟩ := cN
          have hF := hI.out.1.name hkg2 hg j (.string ⟨#[63]⟩)
          have hK := keep_set hI.out.2 hg (j * 2) (.string ⟨#[63]⟩)
          clear hkg2 hI
          go_wp2_with fail
          exact ⟨⟨j + 1, hlt, by go_num, vers.lay ⟨hF, hK⟩⟩, by first | (simp [intOf]; done) | (simp [intOf]; omega) | omega⟩
    · obtain rfl : j = es.length := by omega
      go_wp2_with fail
      go_loopw [40] (fun i wi => ∃ k : Nat, k ≤ ks.length ∧ i = .int .i64 (k : Int) ∧ Hid (SpI w lo hi L wi ∧ Keep (fun g => lo ≤ g ∧ g < hi) WX wi)) (fun i _ => ks.length - (intOf i).toNat)
      case atStart => exact ⟨0, Nat.zero_le _, rfl, hI⟩
      case round =>
        clear q1 q2 kXr hI
        obtain ⟨k, hk, rfl, hI⟩ := hrel
        have kXr := HBX.out _ hI.out.1 hI.out.2
        have q1 := kXr.cell 1
        have q2 := kXr.cell 2
        simp only [List.getElem?_toArray, List.getElem?_cons_zero, List.getElem?_cons_succ] at q1 q2
        have lXr := kXr.lt
        by_cases hlk : k < ks.length
        · have hvr := (hI.out.1.nodes _ HX.out).kids
          simp only [] at hvr
          obtain ⟨gv, csv, rfl, hgv, hkv, hcv⟩ := hvr.resolve_left (by omega)
          have hvl' := hkv.lt
          have fV := hkv.frozen (k * 5)
          have cV : ∃ u, wr.cell? ⟨gv, k * 5, none⟩ = some u := ⟨csv[k * 5]'(by omega), by rw [hkv.cell]; exact Array.getElem?_eq_getElem (by omega)⟩
          obtain ⟨uV, cV⟩ := cV
          have hF := hI.out.1.far hkv (by decide) (by decide) hgv (k * 5) (.string ⟨#[33]⟩)
          have hK := keep_set hI.out.2 hgv (k * 5) (.string ⟨#[33]⟩)
          clear hkv hI
          go_wp2_with fail
          exact ⟨⟨k + 1, hlk, by go_num, vers.lay ⟨hF, hK⟩⟩, by first | (simp [intOf]; done) | (simp [intOf]; omega) | omega⟩
        · obtain rfl : k = ks.length := by omega
          go_wp2_with fail
          refine bodyPost_end (v := .tuple #[]) (by simp [results, Try.results70, go_sem]) rfl ⟨rfl, hI.out.1⟩

end Go.Proofs.Ythmamlghmagmkaa.caches

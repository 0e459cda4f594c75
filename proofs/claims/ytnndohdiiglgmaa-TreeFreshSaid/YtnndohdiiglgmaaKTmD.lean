/- A map and one more put; nodes that are written over. -/
import Derived.Test.YtnndohdiiglgmaaKTmC


namespace Go.Proofs.Ytnndohdiiglgmaa.trees
set_option linter.unusedVariables false
set_option linter.unusedSimpArgs false
open Go.RowKit Go.Proofs.Ytnndohdiiglgmaa.base Go.Proofs.Ytnndohdiiglgmaa.vers Go.Proofs.Ytnndohdiiglgmaa.nodes Go.Proofs.Ytnndohdiiglgmaa.quotas

theorem withP_mem {L : List PE} {e : PE} (hI : Inc (nm L)) (y : PE) : y ∈ withP L e ↔ y = e ∨ (y ∈ L ∧ y.1 ≠ e.1) := by
  obtain ⟨hc1, hc2⟩ := inc_cut (s := e.1) hI
  have hk : lbP (nm L) e.1 ≤ L.length := by have := lbP_le (nm L) e.1; simpa [nm] using this
  unfold withP
  change y ∈ L.take (lbP (nm L) e.1) ++ e :: L.drop (if (nm L)[lbP (nm L) e.1]? = some e.1 then lbP (nm L) e.1 + 1 else lbP (nm L) e.1) ↔ _
  generalize lbP (nm L) e.1 = k at *
  have hlow : ∀ z ∈ L.take k, ltS z.1 e.1 = true := fun z hz => hc1 z.1 (by
    have : (nm L).take k = (L.take k).map (·.1) := by unfold nm; rw [List.map_take]
    rw [this]; exact List.mem_map_of_mem hz)
  have hhigh : ∀ z ∈ L.drop k, ltS z.1 e.1 = false := fun z hz => hc2 z.1 (by
    have : (nm L).drop k = (L.drop k).map (·.1) := by unfold nm; rw [List.map_drop]
    rw [this]; exact List.mem_map_of_mem hz)
  have hne : ∀ z : PE, ltS z.1 e.1 = true → z.1 ≠ e.1 := fun z h h2 => by rw [h2, ltS_irrefl] at h; cases h
  rw [List.mem_append, List.mem_cons]
  conv => rhs; rw [show (y ∈ L) = (y ∈ L.take k ++ L.drop k) by rw [List.take_append_drop], List.mem_append]
  by_cases hf : (nm L)[k]? = some e.1
  · rw [if_pos hf]
    obtain ⟨hkl, hke⟩ := List.getElem?_eq_some_iff.1 hf
    have hkl' : k < L.length := by simpa [nm] using hkl
    have hke' : L[k].1 = e.1 := by simpa [nm] using hke
    have hd : L.drop k = L[k] :: L.drop (k + 1) := List.drop_eq_getElem_cons hkl'
    constructor
    · rintro (h | h | h)
      · exact .inr ⟨.inl h, hne y (hlow y h)⟩
      · exact .inl h
      · refine .inr ⟨.inr (by rw [hd]; exact List.mem_cons_of_mem _ h), fun h2 => ?_⟩
        obtain ⟨i, hi, rfl⟩ := List.mem_iff_getElem.1 h
        have hin : k + 1 + i < (nm L).length := by simp [nm]; rw [List.length_drop] at hi; omega
        have h3 := (List.pairwise_iff_getElem.1 hI) k (k + 1 + i) hkl hin (by omega)
        simp only [nm, List.getElem_map] at h3
        rw [List.getElem_drop] at h2
        rw [h2, hke', ltS_irrefl] at h3
        cases h3
    · rintro (h | ⟨h | h, h2⟩)
      · exact .inr (.inl h)
      · exact .inl h
      · rw [hd] at h
        rcases List.mem_cons.1 h with rfl | h
        · exact absurd hke' h2
        · exact .inr (.inr h)
  · rw [if_neg hf]
    constructor
    · rintro (h | h | h)
      · exact .inr ⟨.inl h, hne y (hlow y h)⟩
      · exact .inl h
      · refine .inr ⟨.inr h, fun h2 => hf ?_⟩
        obtain ⟨i, hi, rfl⟩ := List.mem_iff_getElem.1 h
        rw [List.length_drop] at hi
        have hkl : k < L.length := by omega
        rw [List.getElem_drop] at h2
        have h5 : ltS L[k].1 e.1 = false := hhigh L[k] (by rw [List.drop_eq_getElem_cons hkl]; exact List.mem_cons_self)
        have e1 : L[k].1 = e.1 := by
          rcases Nat.eq_zero_or_pos i with rfl | h0
          · exact h2
          · have h3 := (List.pairwise_iff_getElem.1 hI) k (k + i) (by simpa [nm] using hkl) (by simp [nm]; omega) (by omega)
            simp only [nm, List.getElem_map] at h3
            rw [h2, h5] at h3
            cases h3
        unfold nm
        rw [List.getElem?_map, List.getElem?_eq_getElem hkl, Option.map_some, e1]
    · rintro (h | ⟨h | h, h2⟩)
      · exact .inr (.inl h)
      · exact .inl h
      · exact .inr (.inr h)
theorem inc_nodup {N : List ByteArray} (h : Inc N) : N.Nodup := h.imp fun {a b} h e => by rw [e, ltS_irrefl] at h; cases h
theorem Mp.of {L : List PE} {l : List TO} (h1 : Inc (nm L)) (h2 : ∀ y ∈ L, ∃ o ∈ l, o.n = y.1 ∧ y.2 = [vOf o.v]) (h3 : ∀ o ∈ l, (o.n, [vOf o.v]) ∈ L) (h4 : (l.map (·.n)).Nodup) : Mp L l :=
  ⟨h1, h2, h3, by
    have hp : (l.map (·.n)).Perm (nm L) := (List.perm_ext_iff_of_nodup h4 (inc_nodup h1)).2 fun s => ⟨fun hs => by
      obtain ⟨o, ho, rfl⟩ := List.mem_map.1 hs
      exact List.mem_map.2 ⟨_, h3 o ho, rfl⟩, fun hs => by
      obtain ⟨y, hy, rfl⟩ := List.mem_map.1 hs
      obtain ⟨o, ho, h5, _⟩ := h2 y hy
      exact List.mem_map.2 ⟨o, ho, h5⟩⟩
    have := hp.length_eq
    simpa [nm] using this, h4⟩
theorem woT_mem {l : List TO} {s : ByteArray} {o : TO} : o ∈ woT l s ↔ o ∈ l ∧ o.n ≠ s := by unfold woT; rw [List.mem_filter]; simp
theorem woT_nodup {l : List TO} {s : ByteArray} (h : (l.map (·.n)).Nodup) : ((woT l s).map (·.n)).Nodup := h.sublist (List.filter_sublist.map _)
theorem Mp.put {L : List PE} {l : List TO} (m : Mp L l) (o : TO) : Mp (withP L (o.n, [vOf o.v])) (woT l o.n ++ [o]) := by
  refine Mp.of (withP_inc m.inc) (fun y hy => ?_) (fun o' ho' => ?_) ?_
  · rcases (withP_mem m.inc y).1 hy with rfl | ⟨h1, h2⟩
    · exact ⟨o, List.mem_append_right _ (List.mem_singleton_self o), rfl, rfl⟩
    · obtain ⟨o', h3, h4, h5⟩ := m.one y h1
      exact ⟨o', List.mem_append_left _ (woT_mem.2 ⟨h3, by rw [h4]; exact h2⟩), h4, h5⟩
  · rcases List.mem_append.1 ho' with h | h
    · obtain ⟨h1, h2⟩ := woT_mem.1 h
      exact (withP_mem m.inc _).2 (.inr ⟨m.all o' h1, h2⟩)
    · rw [List.mem_singleton.1 h]
      exact (withP_mem m.inc _).2 (.inl rfl)
  · rw [List.map_append, List.nodup_append]
    refine ⟨woT_nodup m.uni, by simp, fun a ha b hb e => ?_⟩
    simp only [List.map_cons, List.map_nil, List.mem_singleton] at hb
    obtain ⟨o', h1, h2⟩ := List.mem_map.1 ha
    exact (woT_mem.1 h1).2 (by rw [h2, e, hb])
theorem Mp.nil : Mp [] [] := Mp.of List.Pairwise.nil (fun y hy => by cases hy) (fun o ho => by cases ho) List.nodup_nil
theorem woT_len {L : List PE} {l : List TO} (m : Mp L l) (s : ByteArray) : (woT l s).length ≤ l.length := woT_le l s

/-! ### rows that are written over stay rows -/
def RowI (w : World) (t : TypeId) (k : Nat) (A : Option Addr) (n lo hi : Nat) : Prop := n = 0 ∨ ∃ g cs, A = some ⟨g, 0, none⟩ ∧ (lo ≤ g ∧ g < hi) ∧ Blk w g t cs ∧ n * k ≤ cs.size
theorem blk_set {w : World} {g : Nat} {t : TypeId} {cs : Array Value} (h : Blk w g t cs) (b o : Nat) (u : Value) : ∃ cs', Blk (w.setCell ⟨b, o, none⟩ u) g t cs' ∧ cs'.size = cs.size := by
  by_cases e : g = b
  · subst e; exact ⟨_, h.put o u, by simp⟩
  · exact ⟨cs, h.far (p := ⟨b, o, none⟩) e u, rfl⟩
theorem RowI.set {w : World} {t : TypeId} {k lo hi : Nat} {A : Option Addr} {n : Nat} (h : RowI w t k A n lo hi) (b o : Nat) (u : Value) : RowI (w.setCell ⟨b, o, none⟩ u) t k A n lo hi := by
  rcases h with h | ⟨g, cs, e, hp, hb, hs⟩
  · exact .inl h
  · obtain ⟨cs', h1, h2⟩ := blk_set hb b o u
    exact .inr ⟨g, cs', e, hp, h1, by omega⟩
theorem RowI.below {w w' : World} {t : TypeId} {k lo hi : Nat} {A : Option Addr} {n : Nat} (h : RowI w t k A n lo hi) (hb : Below hi w w') : RowI w' t k A n lo hi := by
  rcases h with h | ⟨g, cs, e, hp, hk, hs⟩
  · exact .inl h
  · exact .inr ⟨g, cs, e, hp, (hb.block g hp.2).trans hk, hs⟩
theorem RowI.of {w : World} {t : TypeId} {k b n lo hi : Nat} {A : Option Addr} {c : Nat} {xs : List Value} (h : w.ownsRow b t k (.slice A n c) n xs) (hp : ∀ g, (Value.slice A n c).ownBlock = some g → lo ≤ g ∧ g < hi) : RowI w t k A n lo hi := by
  obtain ⟨hx, h1⟩ := h
  rcases h1 with ⟨e, hn⟩ | ⟨g, cap, cur, e, hg, hb, hc, h2, hs, ht⟩
  · exact .inl hn
  · injection e with e1 e2 e3
    subst e1 e3
    exact .inr ⟨g, cur, rfl, hp g rfl, hb, by rw [hs]; exact Nat.mul_le_mul_right _ hc⟩
/-- a node's secrets and kids, of rows in the blocks lo .. hi -/
structure NW (lo hi : Nat) (x : N) (wr : World) : Prop where
  row : x.es.length = 0 ∨ ∃ g cs, x.A = some ⟨g, 0, none⟩ ∧ (lo ≤ g ∧ g < hi) ∧ Blk wr g 47 cs ∧ x.es.length * 2 ≤ cs.size ∧ ∀ i (h : i < x.es.length), cs[i * 2 + 1]? = some (.slice x.es[i].A x.es[i].l.length x.es[i].c)
  vers : ∀ y ∈ x.es, RowI wr 137 3 y.A y.l.length lo hi
  kids : RowI wr 66 5 x.Q x.ks.length lo hi
theorem blk_ne {w : World} {g g' : Nat} {t t' : TypeId} {cs cs' : Array Value} (h : Blk w g t cs) (h' : Blk w g' t' cs') (ht : t ≠ t') : g ≠ g' := fun e => by
  subst e
  unfold Blk at h h'
  rw [h] at h'
  injection h' with h'
  injection h' with _ h'
  exact ht h'
theorem NW.far {lo hi : Nat} {x : N} {wr : World} (h : NW lo hi x wr) {b : Nat} {t : TypeId} {cs : Array Value} (hb : Blk wr b t cs) (ht : t ≠ 47) (o : Nat) (u : Value) : NW lo hi x (wr.setCell ⟨b, o, none⟩ u) := by
  obtain ⟨h2, h3, h4⟩ := h
  refine ⟨?_, fun y hy => (h3 y hy).set b o u, h4.set b o u⟩
  rcases h2 with h2 | ⟨g, cs2, e, hpg, hbg, hs, hsl⟩
  · exact .inl h2
  · exact .inr ⟨g, cs2, e, hpg, hbg.far (p := ⟨b, o, none⟩) (blk_ne hbg hb (fun e => ht e.symm)) u, hs, hsl⟩
theorem NW.name {lo hi : Nat} {x : N} {wr : World} (h : NW lo hi x wr) (b i : Nat) (u : Value) : NW lo hi x (wr.setCell ⟨b, i * 2, none⟩ u) := by
  obtain ⟨h2, h3, h4⟩ := h
  refine ⟨?_, fun y hy => (h3 y hy).set b _ u, h4.set b _ u⟩
  rcases h2 with h2 | ⟨g, cs2, e, hpg, hbg, hs, hsl⟩
  · exact .inl h2
  · by_cases hgb : g = b
    · subst hgb
      refine .inr ⟨g, _, e, hpg, hbg.put (i * 2) u, by simpa using hs, fun j hj => ?_⟩
      rw [Array.getElem?_setIfInBounds, if_neg (by omega)]
      exact hsl j hj
    · exact .inr ⟨g, cs2, e, hpg, hbg.far (p := ⟨b, i * 2, none⟩) hgb u, hs, hsl⟩
theorem NW.below {lo hi : Nat} {x : N} {wr w' : World} (h : NW lo hi x wr) (hb : Below hi wr w') : NW lo hi x w' := by
  obtain ⟨h2, h3, h4⟩ := h
  refine ⟨?_, fun y hy => (h3 y hy).below hb, h4.below hb⟩
  rcases h2 with h2 | ⟨g, cs2, e, hpg, hbg, hs, hsl⟩
  · exact .inl h2
  · exact .inr ⟨g, cs2, e, hpg, (hb.block g hpg.2).trans hbg, hs, hsl⟩
theorem NW.of {lo hi : Nat} {x : N} {w : World} {F : Nat → Prop} (h : OwnNF w F x) (hF : ∀ g, F g → lo ≤ g ∧ g < hi) : NW lo hi x w := by
  obtain ⟨h1, h2, h3⟩ := h
  refine ⟨?_, fun y hy => RowI.of (h1.2.2.2 y hy).1.1 (fun g hg => hF g ((h1.2.2.2 y hy).1.2.2.2 g hg).1), RowI.of h2.1 (fun g hg => hF g (h2.2.2.1 g hg))⟩
  obtain ⟨hx, h4⟩ := h1.1
  rcases h4 with ⟨_, hn⟩ | ⟨g, cap, cur, e, hg, hb, hc, h2', hs, ht⟩
  · exact .inl hn
  · injection e with e1 e2 e3
    subst e3
    refine .inr ⟨g, cur, e1, hF g (h1.2.2.1 g (by rw [e1]; rfl)), hb, by rw [hs]; exact Nat.mul_le_mul_right _ hc, fun i hi => ?_⟩
    have h5 := (cellsE_at x.es hi).2
    rw [← ht, List.getElem?_take] at h5
    split at h5
    · rw [show i * 2 + 1 = 2 * i + 1 by omega]; simpa using h5
    · cases h5
/-- nodes in the blocks lo .. hi, which alone have turned -/
structure SpI (w : World) (lo hi : Nat) (L : List N) (wr : World) : Prop where
  keep : Keep (fun g => lo ≤ g ∧ g < hi) w wr
  nodes : ∀ y ∈ L, NW lo hi y wr
  seen : ∀ g cs, Blk w g 62 cs → Blk wr g 62 cs
theorem keep_set {w0 wr : World} {P : Nat → Prop} (h1 : Keep P w0 wr) {b : Nat} (hb : P b) (o : Nat) (u : Value) : Keep P w0 (wr.setCell ⟨b, o, none⟩ u) :=
  ⟨h1.os, h1.tape, h1.output, by simpa using h1.size, fun k hk hn => by
    rw [Below.heap_setCell _ _ _ _ (by simp; exact fun e => hn (e ▸ hb))]
    exact h1.block k hk hn⟩
theorem SpI.far {w wr : World} {lo hi : Nat} {L : List N} (h : SpI w lo hi L wr) {b : Nat} {t : TypeId} {cs : Array Value} (hb : Blk wr b t cs) (ht : t ≠ 47) (ht2 : t ≠ 62) (hp : lo ≤ b ∧ b < hi) (o : Nat) (u : Value) : SpI w lo hi L (wr.setCell ⟨b, o, none⟩ u) :=
  ⟨keep_set h.keep hp o u, fun y hy => (h.nodes y hy).far hb ht o u, fun g cs hg => (h.seen g cs hg).far (p := ⟨b, o, none⟩) (blk_ne (h.seen g cs hg) hb (fun e => ht2 e.symm)) u⟩
theorem SpI.name {w wr : World} {lo hi : Nat} {L : List N} (h : SpI w lo hi L wr) {b : Nat} {cs : Array Value} (hb : Blk wr b 47 cs) (hp : lo ≤ b ∧ b < hi) (i : Nat) (u : Value) : SpI w lo hi L (wr.setCell ⟨b, i * 2, none⟩ u) :=
  ⟨keep_set h.keep hp _ u, fun y hy => (h.nodes y hy).name b i u, fun g cs hg => (h.seen g cs hg).far (p := ⟨b, i * 2, none⟩) (blk_ne (h.seen g cs hg) hb (by decide)) u⟩

theorem SpI.next {w wr w' : World} {lo hi : Nat} {L : List N} (h : SpI w lo hi L wr) (hb : Below wr.heap.size wr w') (hhi : hi ≤ wr.heap.size) : SpI w lo hi L w' :=
  ⟨h.keep.seq hb, fun y hy => (h.nodes y hy).below (hb.mono hhi), fun g cs hg => (h.seen g cs hg).below hb (h.seen g cs hg).lt⟩
theorem SpI.trans {w wr w' : World} {lo hi : Nat} {L : List N} (h : SpI w lo hi L wr) (k : SpI wr lo hi L w') : SpI w lo hi L w' :=
  ⟨h.keep.trans k.keep (fun g hg _ => hg), k.nodes, fun g cs hg => k.seen g cs (h.seen g cs hg)⟩
theorem row_seen {w w' : World} {v : Value} {n : Nat} {xs : List Value} (h : w.ownsRow 0 62 8 v n xs) (hs : ∀ g cs, Blk w g 62 cs → Blk w' g 62 cs) : w'.ownsRow 0 62 8 v n xs := by
  obtain ⟨hx, h1⟩ := h
  refine ⟨hx, ?_⟩
  rcases h1 with h1 | ⟨g, cap, cur, rfl, hg, hb, hr⟩
  · exact .inl h1
  · exact .inr ⟨g, cap, cur, rfl, hg, hs g cur hb, hr⟩
theorem seen_at {w : World} {A : Option Addr} {c : Nat} {l : List SN} (h : w.ownsRow 0 62 8 (.slice A l.length c) l.length (cellsSn l)) {j : Nat} (hj : j < l.length) : ∃ b off, A = some ⟨b, off, none⟩ ∧ b < w.heap.size ∧ w.cell? ⟨b, off + j * 8, none⟩ = some (.int .i64 (l[j].1 : Int)) ∧
    w.cell? ⟨b, off + j * 8 + 1, none⟩ = some (.int .u64 (l[j].2.1.k : Int)) ∧ w.cell? ⟨b, off + j * 8 + 2, none⟩ = some (.int .i64 l[j].2.1.g) ∧ w.cell? ⟨b, off + j * 8 + 3, none⟩ = some (.int .i64 l[j].2.1.o) ∧ w.cell? ⟨b, off + j * 8 + 4, none⟩ = some (.int .i64 l[j].2.1.n) ∧
    w.cell? ⟨b, off + j * 8 + 5, none⟩ = some (.bool l[j].2.2.lf) ∧ w.cell? ⟨b, off + j * 8 + 6, none⟩ = some (.slice l[j].2.2.A l[j].2.2.es.length l[j].2.2.c) ∧ w.cell? ⟨b, off + j * 8 + 7, none⟩ = some (.slice l[j].2.2.Q l[j].2.2.ks.length l[j].2.2.m) := by
  obtain ⟨A', c', e, _, _, hr⟩ := row_rdF h
  injection e with e1 _ e2
  subst e1 e2
  obtain ⟨g0, g1, g2, g3, g4, g5, g6, g7⟩ := cellsSn_at l hj
  obtain ⟨b, off, rfl, hb, x0⟩ := hr _ _ g0
  have at' : ∀ i u, (cellsSn l)[i]? = some u → w.cell? ⟨b, off + i, none⟩ = some u := fun i u hi => by
    obtain ⟨b', off', e, _, hc⟩ := hr i u hi
    injection e with e
    injection e with e1 e2
    subst e1 e2
    exact hc
  exact ⟨b, off, rfl, World.block_lt_of_cell? w _ x0, x0, at' _ _ g1, at' _ _ g2, at' _ _ g3, at' _ _ g4, at' _ _ g5, at' _ _ g6, at' _ _ g7⟩

end Go.Proofs.Ytnndohdiiglgmaa.trees

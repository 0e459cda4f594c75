/- Like and Copy of the document. -/
import Derived.Test.YtoenkkbcpafanaaVerD
import Derived.Deep.RegionHeld3
import Derived.Deep.AppendLies


namespace Go.Proofs.Ytoenkkbcpafanaa.vers
set_option linter.unusedVariables false
set_option linter.unusedSimpArgs false
open Go.RowKit Go.Proofs.Ytoenkkbcpafanaa.base Go.Proofs.Ytoenkkbcpafanaa.quotas

set_option maxRecDepth 100000 in
set_option maxHeartbeats 400000 in
theorem like_any (s s' : ByteArray) (l m : List V) (A A' : Option Addr) (cap cap' : Nat) (w : World) (hv : Vs w w.heap.size l A cap) (hv' : Vs w w.heap.size m A' cap') :
    Calls Try.prog 171 #[.agg #[.string s, .slice A l.length cap], .agg #[.string s', .slice A' m.length cap']] w fun x w' => x = .returned (.bool (decide (s = s') && decide (l = m))) ∧ Below w.heap.size w w' := by
  have hw2 : Below w.heap.size w ((w.alloc (.cells #[.string s, .slice A l.length cap] 47)).alloc (.cells #[.string s', .slice A' m.length cap'] 47)) := ((Below.refl _ _).alloc (Nat.le_refl _) _).alloc (by simp) _
  have hc := likeVs_any l m A A' cap cap' _ ((hv.below hw2).more hw2.size) ((hv'.below hw2).more hw2.size)
  by_cases hs : s = s'
  · have d1 := bytes_eq hs
    have e1 : decide (s = s') = true := decide_eq_true hs
    rw [e1]
    clear hs e1
    go_enter Try.func171, Try.ntmps171
    go_wp2_with fail
    refine hc.mono ?_
    rintro x w1 ⟨rfl, hb1⟩
    go_wp2_with fail
    go_ret
    exact ⟨rfl, hw2.trans (hb1.mono hw2.size)⟩
  · have d1 := bytes_ne hs
    have e1 : decide (s = s') = false := decide_eq_false hs
    rw [e1]
    clear hs e1
    go_enter Try.func171, Try.ntmps171
    go_wp2_with fail
    go_ret
    exact ⟨rfl, hw2⟩

theorem Blk.grown {w w' : World} {g : Nat} {t : TypeId} {cs : Array Value} {row : Option Nat} (h : Blk w g t cs) (hg : w.grownBy w' row) (hr : row ≠ some g) : Blk w' g t cs := (hg.block g h.lt (fun e => hr e.symm)).trans h
theorem OwnV.drew {lo : Nat} {w : World} {l : List V} {v : Value} (h : OwnV lo w l v) : OwnV lo w.drew l v := h.below ((Below.refl _ _).drew)
theorem Vs.drew {w : World} {B : Nat} {l : List V} {A : Option Addr} {c : Nat} (h : Vs w B l A c) : Vs w.drew B l A c := h.below ((Below.refl _ _).drew)

theorem OwnV.setCell {lo : Nat} {w : World} {l : List V} {v : Value} (h : OwnV lo w l v) {p : Addr} (hp : p.block < lo) (u : Value) : OwnV lo (w.setCell p u) l v := ⟨ownsRow_setCell_below h.1 hp u, h.2⟩
theorem OwnV.more {lo lo' : Nat} {w : World} {l : List V} {v : Value} (h : OwnV lo w l v) (hl : lo' ≤ lo) : OwnV lo' w l v := by
  refine ⟨⟨h.1.1, ?_⟩, h.2⟩
  rcases h.1.2 with h0 | ⟨g, cap, cur, k1, k2, k3⟩
  · exact .inl h0
  · exact .inr ⟨g, cap, cur, k1, Nat.le_trans hl k2, k3⟩
/-- behind an append onto an own list: what was there, but for blocks from B on -/
theorem below_grown {w0 w w' : World} {B : Nat} {row : Option Nat} (h : Below B w0 w) (hg : w.grownBy w' row) (hB : B ≤ w.heap.size) (hr : ∀ k, row = some k → B ≤ k) : Below B w0 w' := h.grown hg hB hr

set_option maxRecDepth 100000 in
set_option maxHeartbeats 400000 in
theorem copy_any (s : ByteArray) (l : List V) (A : Option Addr) (cap : Nat) (w : World) (hv : Vs w w.heap.size l A cap) :
    Calls Try.prog 170 #[.agg #[.string s, .slice A l.length cap]] w fun x w' => ∃ u, x = .returned (.agg #[.string s, u]) ∧ OwnV w.heap.size w' l u ∧ Below w.heap.size w w' := by
  have hB2 : Below w.heap.size w ((w.alloc (.cells #[.string s, .slice A l.length cap] 47)).alloc (.cells #[.string ⟨#[]⟩, .slice none 0 0] 47)) := ((Below.refl _ _).alloc (Nat.le_refl _) _).alloc (by simp) _
  have hB3 := (hB2.alloc hB2.size (.cells #[] 180)).drew
  have hE := (OwnV.empty (w.heap.size + 1 + 1) ((w.alloc (.cells #[.string s, .slice A l.length cap] 47)).alloc (.cells #[.string ⟨#[]⟩, .slice none 0 0] 47)) (by simp)).drew
  have hV := hv.below hB3
  have hz := ((Blk.new (w.alloc (.cells #[.string s, .slice A l.length cap] 47)) 47 #[.string ⟨#[]⟩, .slice none 0 0]).alloc (.cells #[] 180)).drew
  have hlen := hv.2.1
  simp only [World.size_alloc] at hE hz
  go_enter Try.func170, Try.ntmps170
  go_wp2_with fail
  go_region_held3 (fun w' => (w'.cell? ⟨w.heap.size, 0, none⟩ = some (.string s) ∧ w'.cell? ⟨w.heap.size, 1, none⟩ = some (.slice A l.length cap)))
    (first | go_keep | (go_split_ands; refine ⟨?_, ?_⟩ <;> (rw [hg.cell_far _ (by simp; omega) (by simp [Value.ownBlock]; omega)]; assumption)))
    ((refine step_append_vs (by rfl) (.tmp 5) (.tmp 7) (by rfl) (lo := w.heap.size + 1 + 1) (B := w.heap.size) (l := []) (m := l) (A := A) (n := l.length) (c := cap) (v := .slice (some ⟨w.heap.size + 1 + 1, 0, none⟩) 0 0) hE (by rfl) ?_ (by rfl) rfl hV ?_ ?_; simp; (simp; omega); intro v' w1 hown hg hat; have hz1 := Blk.grown hz hg (by simp [Value.ownBlock]); have z0 := hz1.cell 0; have z1 := hz1.cell 1; simp at z0 z1; have f0 := hz1.frozen 0; have f1 := hz1.frozen 1; rw [List.nil_append] at hown; obtain ⟨A1, cap1, rfl, hc1⟩ := hown.form))
  have hs1 := hg.size
  simp at hs1
  have hB4 : Below w.heap.size w w1 := hB3.grown hg (by simp; omega) (fun k hk => by simp [Value.ownBlock] at hk; omega)
  go_wp2_with fail
  refine bodyPost_ret (v := .agg #[.string s, .slice A1 l.length cap1]) (by simp [results, Try.results170, go_sem, z0, z1]) rfl ⟨_, rfl, (((hown.setCell (by simp) _).setCell (by simp) _).more (by omega)), (hB4.setCell (by simp) _).setCell (by simp) _⟩
end Go.Proofs.Ytoenkkbcpafanaa.vers

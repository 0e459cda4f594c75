/- What package entry's renewed answers: two lists of the call's own, in blocks apart. -/
import Derived.Test.YtolngibmfffjcaaVerX
import Derived.Test.YtolngibmfffjcaaVerP


namespace Go.Proofs.Ytolngibmfffjcaa.vers
set_option linter.unusedVariables false
set_option linter.unusedSimpArgs false
open Go.RowKit Go.Proofs.Ytolngibmfffjcaa.base Go.Proofs.Ytolngibmfffjcaa.quotas

theorem copied_at (l : List V) (A : Option Addr) (c : Nat) (B : Nat) (w : World) (hv : Vs w B l A c) (hB : B ≤ w.heap.size) (g : Nat) (hg : w.heap.size = g) :
    Calls Try.prog 39 #[.slice A l.length c] w fun x w' => x = .returned (.slice (some ⟨g, 0, none⟩) l.length l.length) ∧ OwnV g w' l (.slice (some ⟨g, 0, none⟩) l.length l.length) ∧ Below g w w' := by
  subst hg
  exact copied_any l A c B w hv hB

/-- behind the call's beginning: its own boxes -/
def Ry (w : World) (s : ByteArray) (u : Value) (x : V) (wr : World) : Prop :=
  EBox wr w.heap.size s u ∧ VBox wr (w.heap.size + 1) x ∧ Blk wr (w.heap.size + 2) 26 #[.string ⟨#[]⟩, .slice none 0 0] ∧ Below w.heap.size w wr
theorem Ry.new (w : World) (s : ByteArray) (u : Value) (x : V) : Ry w s u x (((w.alloc (.cells #[.string s, u] 26)).alloc (.cells #[.int .i64 x.n, .string x.v, .string x.t] 39)).alloc (.cells #[.string ⟨#[]⟩, .slice none 0 0] 26)) := by
  have k1 := EBox.new w s u
  have k2 := VBox.new (w.alloc (.cells #[.string s, u] 26)) x
  have k3 := Blk.new ((w.alloc (.cells #[.string s, u] 26)).alloc (.cells #[.int .i64 x.n, .string x.v, .string x.t] 39)) 26 #[.string ⟨#[]⟩, .slice none 0 0]
  simp only [World.size_alloc] at k2 k3
  exact ⟨(k1.alloc _).alloc _, k2.alloc _, k3, (((Below.refl _ _).alloc (Nat.le_refl _) _).alloc (by simp) _).alloc (by simp; omega) _⟩
theorem Ry.next {w wr w' : World} {s : ByteArray} {u : Value} {x : V} (h : Ry w s u x wr) (hb : Below wr.heap.size wr w') : Ry w s u x w' :=
  ⟨h.1.next hb, h.2.1.next hb, h.2.2.1.below hb h.2.2.1.lt, seq h.2.2.2 hb⟩

set_option maxRecDepth 100000 in
set_option maxHeartbeats 2000000 in
theorem renewed_any (s : ByteArray) (l : List V) (A : Option Addr) (cap : Nat) (k : Nat) (x : V) (w : World) (hv : Vs w w.heap.size l A cap) (hk : k ≤ l.length) (hx : x.fits) (hlen : (l.length + 1) * 40 ≤ 140737488355328) :
    Calls Try.prog 30 #[.agg #[.string s, .slice A l.length cap], .int .i64 (k : Int), .agg #[.int .i64 x.n, .string x.v, .string x.t]] w fun r w' => ∃ u u', r = .returned (.tuple #[.agg #[.string s, u], u']) ∧ OwnV w.heap.size w' (l.drop k ++ [x]) u ∧ OwnV w.heap.size w' (l.take k) u' ∧ (∀ g, u.ownBlock = some g → u'.ownBlock ≠ some g) ∧ Below w.heap.size w w' := by
  obtain ⟨A1, c1, hs1, hv1⟩ := run_from hv k hk
  obtain ⟨A2, c2, hs2, hv2⟩ := run_upto hv k hk
  have hlen1 : ((l.drop k).length + [x].length) * 40 ≤ 140737488355328 := by simp only [List.length_drop, List.length_singleton]; omega
  have I0 := Ry.new w s (.slice A l.length cap) x
  clear hk hlen
  generalize l.drop k = K1 at hs1 hv1 hlen1 ⊢
  generalize l.take k = K2 at hs2 hv2 ⊢
  go_enter Try.func30, Try.ntmps30
  go_wp2_with fail
  generalize ((w.alloc (.cells #[.string s, .slice A l.length cap] 26)).alloc (.cells #[.int .i64 x.n, .string x.v, .string x.t] 39)).alloc (.cells #[.string ⟨#[]⟩, .slice none 0 0] 26) = W at I0 ⊢
  have hW := I0.2.2.1.lt
  have bW := I0.2.2.2
  obtain ⟨⟨⟨e0, e1⟩, e2⟩, ⟨⟨v0, v1, v2⟩, v3⟩, hR, _⟩ := id I0
  go_cut [8] (fun s8 wx => OwnV W.heap.size wx (K1 ++ [x]) s8 ∧ Below W.heap.size W wx)
  case first =>
    have B1 : Below W.heap.size W W.drew := (Below.refl _ _).drew
    have B2 : Below W.heap.size W (W.alloc (.cells #[.int .i64 x.n, .string x.v, .string x.t] 39)).drew := ((Below.refl _ _).alloc (Nat.le_refl _) _).drew
    have V1 := hv1.below (bW.trans (B1.mono bW.size))
    have V2 := hv1.below (bW.trans (B2.mono bW.size))
    have S1 : w.heap.size ≤ W.drew.heap.size := bW.size
    have S2 : w.heap.size ≤ (W.alloc (.cells #[.int .i64 x.n, .string x.v, .string x.t] 39)).drew.heap.size := by have := bW.size; simp; omega
    have O2 := Vs.one W x hx
    go_region_held3 (fun w' => w'.cell? ⟨w.heap.size, 1, none⟩ = some (.slice A l.length cap) ∧ w'.cell? ⟨w.heap.size + 1, 0, none⟩ = some (.int .i64 x.n) ∧ w'.cell? ⟨w.heap.size + 1, 1, none⟩ = some (.string x.v) ∧ w'.cell? ⟨w.heap.size + 1, 2, none⟩ = some (.string x.t))
      (first | go_keep | (go_split_ands; refine ⟨?_, ?_, ?_, ?_⟩ <;> (rw [hP9.cell (by simp; omega)]; assumption)) | (go_split_ands; refine ⟨?_, ?_, ?_, ?_⟩ <;> (rw [hP8.cell (by simp; omega)]; assumption)))
      ((first
        | (go_at_call 39; refine (copied_any K1 A1 c1 w.heap.size _ ?_ ?_).mono ?_; (first | with_reducible exact V1 | with_reducible exact V2); (first | with_reducible exact S1 | with_reducible exact S2); rintro r w1 ⟨rfl, hown, hb1⟩; simp only [World.size_drew, World.size_alloc] at hown hb1;
            (first | (have hP8 := B1.trans hb1; have hlo : W.heap.size ≤ W.heap.size := Nat.le_refl _) | (have hP8 := B2.trans (hb1.mono (Nat.le_succ _)); have hlo : W.heap.size ≤ W.heap.size + 1 := Nat.le_succ _; have hone' := (O2.drew).below hb1)); have hs8 := hP8.size)
        | (apply step_append_vs (s := .tmp 13) (x := .tmp 15) (lo := W.heap.size) (l := K1) (m := [x]) (n := 1) (c := 1) (v := .slice (some ⟨W.heap.size, 0, none⟩) K1.length K1.length); (case hgd => rfl); (case ho => rfl); (case hs => rfl); (case hx => rfl); (case hn => rfl); (case hB => exact (hown.more hlo).below ((Below.refl _ _).alloc (Nat.le_refl _) _)); (case hlo => exact Nat.le_trans hP8.size (by simp)); (case hv => exact Vs.one _ _ hx); (case hlen => exact hlen1); intro v'' w9 hown2 hg2 hat2;
            have hP9 := (hP8.alloc hP8.size (.cells #[.int .i64 x.n, .string x.v, .string x.t] 39)).grown hg2 (Nat.le_trans hP8.size (by simp)) (fun k hk => ((hown.more hlo).own k hk).1);
            obtain ⟨A9, n9, c9, rfl, hn9⟩ := hown2.shape)
        | (apply step_append_vs (s := .tmp 13) (x := .tmp 15) (lo := W.heap.size) (l := K1) (m := [x]) (n := 1) (c := 1) (v := .slice (some ⟨W.heap.size + 1, 0, none⟩) K1.length K1.length); (case hgd => rfl); (case ho => rfl); (case hs => rfl); (case hx => rfl); (case hn => rfl); (case hB => exact hown.more hlo); (case hlo => exact hP8.size); (case hv => exact hone'); (case hlen => exact hlen1); intro v'' w9 hown2 hg2 hat2;
            have hP9 := hP8.grown hg2 hP8.size (fun k hk => ((hown.more hlo).own k hk).1);
            obtain ⟨A9, n9, c9, rfl, hn9⟩ := hown2.shape)))
    all_goals (go_wp2_with fail; go_meet; exact ⟨hown2, hP9⟩)
  case rest =>
    obtain ⟨hA, hBc⟩ := hcut
    have I2 := I0.next hBc
    clear I0 hR e0 e1 e2 v0 v1 v2 v3
    have hs2' := hBc.size
    have bw2 := I2.2.2.2
    have V3 := hv2.below (bw2.drew)
    have S3 : w.heap.size ≤ wc.drew.heap.size := bw2.size
    obtain ⟨⟨⟨e0, e1⟩, e2⟩, ⟨⟨v0, v1, v2⟩, v3⟩, hR, _⟩ := id I2
    obtain ⟨A8, n8, c8, rfl, hn8⟩ := hA.shape
    have hR' := lay hR
    clear hR
    go_wp2_with fail
    go_region_held3 (fun w' => w'.cell? ⟨w.heap.size, 0, none⟩ = some (.string s) ∧ w'.cell? ⟨w.heap.size, 1, none⟩ = some (.slice A l.length cap))
      (first | go_keep | (go_split_ands; refine ⟨?_, ?_⟩ <;> (rw [hb3.cell (by simp; omega)]; assumption)) | (go_split_ands; refine ⟨?_, ?_⟩ <;> (rw [World.cell?_setCell_other _ _ _ _ (by simp), World.cell?_setCell_other _ _ _ _ (by simp)]; assumption)))
      ((go_at_call 39; refine (copied_any K2 A2 c2 w.heap.size _ ?_ ?_).mono ?_; (with_reducible exact V3); (with_reducible exact S3); rintro r w3 ⟨rfl, hown3, hb3⟩; simp only [World.size_drew] at hown3 hb3;
          have hb3' := ((Below.refl wc.heap.size wc).drew).trans hb3;
          have hR3 := hR'.out.below hb3' hR'.out.lt;
          have y0 := hR3.cell 0;
          have y1 := hR3.cell 1;
          simp at y0 y1;
          have g0 := hR3.frozen 0;
          have g1 := hR3.frozen 1;
          have q0 := (hb3'.cell (p := ⟨w.heap.size, 0, none⟩) (by simp; omega)).trans e0;
          have q1 := (hb3'.cell (p := ⟨w.heap.size, 1, none⟩) (by simp; omega)).trans e1;
          have hs3 := hb3'.size))
    go_wp2_with fail
    have hA3 := hA.below hb3'
    have hW3 : w.heap.size + 1 + 1 < W.heap.size := hW
    refine bodyPost_ret (v := .tuple #[.agg #[.string s, .slice A8 n8 c8], .slice (some ⟨wc.heap.size, 0, none⟩) K2.length K2.length]) (by simp [results, Try.results30, go_sem, y0, y1]) rfl ⟨_, _, rfl, ((hA3.setCell hW3 _).setCell hW3 _).more bW.size, ((hown3.setCell (Nat.lt_of_lt_of_le hW3 hBc.size) _).setCell (Nat.lt_of_lt_of_le hW3 hBc.size) _).more bw2.size, ?_, ((seq bw2 hb3').setCell (by simp; omega) _).setCell (by simp; omega) _⟩
    intro g hg e
    simp [Value.ownBlock] at e
    have := (hA.own g hg).2
    omega
end Go.Proofs.Ytolngibmfffjcaa.vers

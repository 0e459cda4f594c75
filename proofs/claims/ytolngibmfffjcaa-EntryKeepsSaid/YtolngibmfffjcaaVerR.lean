/- The walk of EntryKeeps, out of what is asked of the program's own calls. -/
import Derived.Test.YtolngibmfffjcaaVerP
import Derived.Deep.DeepCutAuto
import Derived.Deep.RegionHeld3


namespace Go.Proofs.Ytolngibmfffjcaa.vers
set_option linter.unusedVariables false
set_option linter.unusedSimpArgs false
open Go.RowKit Go.Proofs.Ytolngibmfffjcaa.base Go.Proofs.Ytolngibmfffjcaa.quotas

theorem OwnV.vsAt {lo : Nat} {w : World} {l : List V} {A : Option Addr} {n c : Nat} (h : OwnV lo w l (.slice A n c)) : Vs w w.heap.size l A c := by
  obtain ⟨A', c', e, hv, _⟩ := h.vs
  cases e
  exact hv
theorem like_two {K : List V} {A A' : Option Addr} {n n' cap cap' : Nat} {w : World} (hv : Vs w w.heap.size K A cap) (hv' : Vs w w.heap.size K A' cap') (hn : n = K.length) (hn' : n' = K.length) :
    Calls Try.prog 18 #[.slice A n cap, .slice A' n' cap'] w fun x w' => x = .returned (.bool true) ∧ Below w.heap.size w w' := by
  subst hn hn'
  have h := likeVs_any K K A A' cap cap' w hv hv'
  rwa [dec_true] at h
theorem Vs.grown {w w' : World} {B b o c : Nat} {l : List V} {row : Option Nat} (h : Vs w B l (some ⟨b, o, none⟩) c) (hg : w.grownBy w' row) (hb : b < w.heap.size) (hr : row ≠ some b) : Vs w' B l (some ⟨b, o, none⟩) c := by
  obtain ⟨h1, h2, h3, h4, h5⟩ := h
  refine ⟨h1, h2, h3, fun j u hj => ?_, h5⟩
  obtain ⟨b', o', e, hB, hc⟩ := h4 j u hj
  cases e
  exact ⟨b, o, rfl, hB, (World.cell?_of_block (hg.block b hb (fun e => hr e.symm))).trans hc⟩

set_option maxRecDepth 100000 in
set_option maxHeartbeats 4000000 in
theorem keeps_of (hp : PutIs) (hq : OverIs) (hL : LastIs) (hR : RightIs) (a b c d e f h : Int) (s : ByteArray) (l : List V) (A : Option Addr) (cap : Nat) (v t : ByteArray) (w : World) (hv : Vs w w.heap.size l A cap) (hfit : v.size ≤ maxLen ∧ t.size ≤ maxLen)
    (n0 : Int) (pk pd : List V) (hpe : addP a b c d e f h s l v t e = ⟨0, s, pk, pd⟩) (hqe : addP a b c d e f h s l v t 1 = ⟨0, s, [⟨n0, v, t⟩], l⟩) (hdk : pd ++ pk = l ++ [⟨n0, v, t⟩]) (hRp : rb (nbad a b c d e f h s pk) pk = 0) (hRq : rb (nbad a b c d e f h s [⟨n0, v, t⟩]) [⟨n0, v, t⟩] = 0)
    (hLp : lastV pk = (⟨n0, v, t⟩, true)) (hk5 : pk.length ≤ 5) (hd1 : pd.length ≤ 1) (hl4 : l.length ≤ 4) (hke : pd.length = 0 ∨ (pk.length : Int) = e) (hfx : (⟨n0, v, t⟩ : V).fits) :
    Calls Try.prog 7 #[.agg #[.int .i64 a, .int .i64 b, .int .i64 c, .int .i64 d, .int .i64 e, .int .i64 f, .int .i64 h], .agg #[.string s, .slice A l.length cap], .string v, .string t] w fun x w' => x = .returned (.bool true) ∧ Below w.heap.size w w' := by
  have E0 := Bx.new w a b c d e f h s (.slice A l.length cap)
  have h1 := fun wr (hb : Below w.heap.size w wr) => refPut_any a b c d e f h s l A cap v t wr (hv.at_world hb) hfit
  have h2 := fun wr (hb : Below w.heap.size w wr) => hp a b c d e f h s l A cap v t wr (hv.at_world hb) hfit
  have h3 := fun wr (hb : Below w.heap.size w wr) => hq a b c d e f h s l A cap v t wr (hv.at_world hb) hfit
  have h4 := fun wr A2 k2 (hx : Vs wr wr.heap.size pk A2 k2) => hL s pk A2 k2 wr hx
  have h5 := fun wr A2 k2 (hx : Vs wr wr.heap.size [⟨n0, v, t⟩] A2 k2) => hL s [⟨n0, v, t⟩] A2 k2 wr hx
  have h6 := fun wr A2 k2 (hx : Vs wr wr.heap.size pk A2 k2) => hR a b c d e f h s pk A2 k2 wr hx
  have h7 := fun wr A2 k2 (hx : Vs wr wr.heap.size [⟨n0, v, t⟩] A2 k2) => hR a b c d e f h s [⟨n0, v, t⟩] A2 k2 wr hx
  rw [hpe] at h1 h2
  rw [hqe] at h3
  rw [hLp] at h4
  rw [show lastV [⟨n0, v, t⟩] = ((⟨n0, v, t⟩ : V), true) from rfl] at h5
  rw [hRp] at h6
  rw [hRq] at h7
  simp only [V.val, List.length_singleton] at h4 h5 h7
  have HDK := lay hdk
  clear hfit hpe hqe hp hq hL hR hRp hRq hLp hdk
  go_enter Try.func7, Try.ntmps7
  go_wp2_with fail
  refine (h1 _ E0.below).mono ?_
  rintro z w1 ⟨u1, y1, rfl, hb1, hu1, hy1⟩
  have G1 := E0.next hb1
  clear E0 hb1
  obtain ⟨A1, k1, rfl, _⟩ := id hu1
  obtain ⟨D1, m1, rfl, _⟩ := id hy1
  obtain ⟨⟨⟨c0, c1, c2, c3, c4, c5, c6⟩, l1, l2, b1⟩, ⟨e0, e1⟩, l3⟩ := id G1
  go_wp2_with fail
  clear c0 c1 c2 c3 c4 c5 c6 l1 l2 b1 e0 e1 l3
  have F1 := G1.alloc (.cells #[.string s, .slice A1 pk.length k1, .slice D1 pd.length m1, .int .i64 0] 33)
  have X1 := ABox.new w1 s (.slice A1 pk.length k1) (.slice D1 pd.length m1) 0
  clear G1 hu1 hy1
  refine (h2 _ F1.below).mono ?_
  rintro z w2 ⟨u2, y2, rfl, hb2, hu2, hy2⟩
  have G2 := F1.next hb2
  have X2 := X1.next hb2
  clear F1 X1 hb2
  obtain ⟨A2, k2, rfl, _⟩ := id hu2
  obtain ⟨D2, m2, rfl, _⟩ := id hy2
  obtain ⟨⟨⟨c0, c1, c2, c3, c4, c5, c6⟩, l1, l2, b1⟩, ⟨e0, e1⟩, l3⟩ := id G2
  go_wp2_with fail
  clear c0 c1 c2 c3 c4 c5 c6 l1 l2 b1 e0 e1 l3
  have F2 := G2.alloc (.cells #[.string s, .slice A2 pk.length k2] 26)
  have Z2 := EBox.new w2 s (.slice A2 pk.length k2)
  have hu2 := hu2.alloc (.cells #[.string s, .slice A2 pk.length k2] 26)
  have hy2 := hy2.alloc (.cells #[.string s, .slice A2 pk.length k2] 26)
  have X2 := X2.alloc (.cells #[.string s, .slice A2 pk.length k2] 26)
  clear G2
  refine (h3 _ F2.below).mono ?_
  rintro z w3 ⟨u3, y3, rfl, hb3, hu3, hy3⟩
  have G3 := F2.next hb3
  have X3 := X2.next hb3
  have Z3 := Z2.next hb3
  have hu2 := hu2.next hb3
  have hy2 := hy2.next hb3
  clear F2 X2 Z2 hb3
  obtain ⟨A3, k3, rfl, _⟩ := id hu3
  obtain ⟨D3, m3, rfl, _⟩ := id hy3
  simp only [List.length_singleton] at hu3 ⊢
  obtain ⟨⟨x0, x1, x2, x3⟩, x4⟩ := id X3
  obtain ⟨⟨z0, z1⟩, z2⟩ := id Z3
  go_wp2_with fail
  clear x0 x1 x2 x3 x4 z0 z1 z2 X3
  have F3 := G3.alloc (.cells #[.string s, .slice A3 1 k3] 26)
  have Y3 := EBox.new w3 s (.slice A3 1 k3)
  have Z3 := Z3.alloc (.cells #[.string s, .slice A3 1 k3] 26)
  have hu2 := hu2.alloc (.cells #[.string s, .slice A3 1 k3] 26)
  have hy2 := hy2.alloc (.cells #[.string s, .slice A3 1 k3] 26)
  have hu3 := hu3.alloc (.cells #[.string s, .slice A3 1 k3] 26)
  have hy3 := hy3.alloc (.cells #[.string s, .slice A3 1 k3] 26)
  clear G3
  refine (h4 _ _ _ hu2.vs).mono ?_
  rintro z w4 ⟨rfl, hb4⟩
  have F3 := F3.next hb4
  have Z3 := Z3.next hb4
  have Y3 := Y3.next hb4
  have hu2 := hu2.next hb4
  have hy2 := hy2.next hb4
  have hu3 := hu3.next hb4
  have hy3 := hy3.next hb4
  clear hb4
  obtain ⟨⟨⟨c0, c1, c2, c3, c4, c5, c6⟩, l1, l2, b1⟩, ⟨e0, e1⟩, l3⟩ := id F3
  obtain ⟨⟨z0, z1⟩, z2⟩ := id Z3
  obtain ⟨⟨y0, y1⟩, y2⟩ := id Y3
  go_wp2_with fail
  clear c0 c1 c2 c3 c4 c5 c6 l1 l2 b1 e0 e1 l3 z0 z1 z2 y0 y1 y2
  have F3 := F3.alloc (.cells #[.int .i64 n0, .string v, .string t] 39)
  have Z3 := Z3.alloc (.cells #[.int .i64 n0, .string v, .string t] 39)
  have Y3 := Y3.alloc (.cells #[.int .i64 n0, .string v, .string t] 39)
  have hu2 := hu2.alloc (.cells #[.int .i64 n0, .string v, .string t] 39)
  have hy2 := hy2.alloc (.cells #[.int .i64 n0, .string v, .string t] 39)
  have hu3 := hu3.alloc (.cells #[.int .i64 n0, .string v, .string t] 39)
  have hy3 := hy3.alloc (.cells #[.int .i64 n0, .string v, .string t] 39)
  have V4 := VBox.new w4 ⟨n0, v, t⟩
  refine (h5 _ _ _ hu3.vs).mono ?_
  rintro z w5 ⟨rfl, hb5⟩
  have F3 := F3.next hb5
  have Z3 := Z3.next hb5
  have Y3 := Y3.next hb5
  have hu2 := hu2.next hb5
  have hy2 := hy2.next hb5
  have hu3 := hu3.next hb5
  have hy3 := hy3.next hb5
  have V4 := V4.next hb5
  clear hb5
  obtain ⟨⟨⟨c0, c1, c2, c3, c4, c5, c6⟩, l1, l2, b1⟩, ⟨e0, e1⟩, l3⟩ := id F3
  obtain ⟨⟨z0, z1⟩, z2⟩ := id Z3
  obtain ⟨⟨y0, y1⟩, y2⟩ := id Y3
  obtain ⟨⟨v0, v1, v2⟩, v3⟩ := id V4
  go_wp2_with fail
  clear c0 c1 c2 c3 c4 c5 c6 l1 l2 b1 e0 e1 l3 z0 z1 z2 y0 y1 y2 v0 v1 v2 v3
  have F3 := F3.alloc (.cells #[.int .i64 n0, .string v, .string t] 39)
  have Z3 := Z3.alloc (.cells #[.int .i64 n0, .string v, .string t] 39)
  have Y3 := Y3.alloc (.cells #[.int .i64 n0, .string v, .string t] 39)
  have hu2 := hu2.alloc (.cells #[.int .i64 n0, .string v, .string t] 39)
  have hy2 := hy2.alloc (.cells #[.int .i64 n0, .string v, .string t] 39)
  have hu3 := hu3.alloc (.cells #[.int .i64 n0, .string v, .string t] 39)
  have hy3 := hy3.alloc (.cells #[.int .i64 n0, .string v, .string t] 39)
  have V4 := V4.alloc (.cells #[.int .i64 n0, .string v, .string t] 39)
  have V5 := VBox.new w5 ⟨n0, v, t⟩
  refine (h6 _ _ _ hu2.vs).mono ?_
  rintro z w6 ⟨rfl, hb6⟩
  have F3 := F3.next hb6
  have Z3 := Z3.next hb6
  have Y3 := Y3.next hb6
  have hu2 := hu2.next hb6
  have hy2 := hy2.next hb6
  have hu3 := hu3.next hb6
  have hy3 := hy3.next hb6
  have V4 := V4.next hb6
  have V5 := V5.next hb6
  clear hb6
  obtain ⟨⟨⟨c0, c1, c2, c3, c4, c5, c6⟩, l1, l2, b1⟩, ⟨e0, e1⟩, l3⟩ := id F3
  obtain ⟨⟨z0, z1⟩, z2⟩ := id Z3
  obtain ⟨⟨y0, y1⟩, y2⟩ := id Y3
  obtain ⟨⟨v0, v1, v2⟩, v3⟩ := id V4
  obtain ⟨⟨x0, x1, x2⟩, x3⟩ := id V5
  go_wp2_with fail
  clear c0 c1 c2 c3 c4 c5 c6 l1 l2 b1 e0 e1 l3 z0 z1 z2 y0 y1 y2 v0 v1 v2 v3 x0 x1 x2 x3
  refine (h7 _ _ _ hu3.vs).mono ?_
  rintro z w7 ⟨rfl, hb7⟩
  have F3 := F3.next hb7
  have Z3 := Z3.next hb7
  have Y3 := Y3.next hb7
  have hu2 := hu2.next hb7
  have hy2 := hy2.next hb7
  have hu3 := hu3.next hb7
  have hy3 := hy3.next hb7
  have V4 := V4.next hb7
  have V5 := V5.next hb7
  clear hb7
  obtain ⟨⟨⟨c0, c1, c2, c3, c4, c5, c6⟩, l1, l2, b1⟩, ⟨e0, e1⟩, l3⟩ := id F3
  obtain ⟨⟨z0, z1⟩, z2⟩ := id Z3
  obtain ⟨⟨y0, y1⟩, y2⟩ := id Y3
  obtain ⟨⟨v0, v1, v2⟩, v3⟩ := id V4
  obtain ⟨⟨x0, x1, x2⟩, x3⟩ := id V5
  go_wp2_with fail
  have B7 := F3.below
  have s7 := F3.2.2
  have hlen40 : (([] : List V).length + l.length) * 40 ≤ 140737488355328 := by simp; omega
  have hlen41 : (l.length + [(⟨n0, v, t⟩ : V)].length) * 40 ≤ 140737488355328 := by simp; omega
  have W1 := (B7.alloc B7.size (.cells #[] 39)).drew
  have W2 := ((B7.alloc B7.size (.cells #[] 39)).alloc (by simp; omega) (.cells #[.int .i64 n0, .string v, .string t] 39)).drew
  have W3 := ((B7.alloc B7.size (.cells #[.int .i64 n0, .string v, .string t] 39)).alloc (by simp; omega) (.cells #[] 39)).drew
  have E1 := (OwnV.empty w7.heap.size w7 (Nat.le_refl _)).drew
  have E2 := ((OwnV.empty w7.heap.size w7 (Nat.le_refl _)).below ((Below.refl _ _).alloc (Nat.le_refl _) (.cells #[.int .i64 n0, .string v, .string t] 39))).drew
  have E3 := (OwnV.empty w7.heap.size (w7.alloc (.cells #[.int .i64 n0, .string v, .string t] 39)) (by simp)).drew
  simp only [World.size_alloc] at E3
  have O2 := Vs.one (w7.alloc (.cells #[] 39)) ⟨n0, v, t⟩ hfx
  have O3 := ((Vs.one w7 ⟨n0, v, t⟩ hfx).more (B' := w7.heap.size + 1) (Nat.le_refl _)).below (B := w7.heap.size + 1) ((Below.refl _ _).alloc (by simp) (.cells #[] 39))
  simp only [World.size_alloc] at O2
  go_cut [20] (fun s20 wx => OwnV w7.heap.size wx (l ++ [⟨n0, v, t⟩]) s20 ∧ Below w7.heap.size w7 wx)
  case first =>
    have P1 : Below w7.heap.size w7 (w7.alloc (.cells #[] 39)).drew := ((Below.refl _ _).alloc (Nat.le_refl _) _).drew
    have P2 : Below w7.heap.size w7 ((w7.alloc (.cells #[] 39)).alloc (.cells #[.int .i64 n0, .string v, .string t] 39)).drew := (((Below.refl _ _).alloc (Nat.le_refl _) _).alloc (by simp) _).drew
    have P3 : Below w7.heap.size w7 ((w7.alloc (.cells #[.int .i64 n0, .string v, .string t] 39)).alloc (.cells #[] 39)).drew := (((Below.refl _ _).alloc (Nat.le_refl _) _).alloc (by simp) _).drew
    go_region_held3 (fun w' => w'.cell? ⟨w.heap.size + 1, 1, none⟩ = some (.slice A l.length cap) ∧ w'.cell? ⟨w4.heap.size, 0, none⟩ = some (.int .i64 n0) ∧ w'.cell? ⟨w4.heap.size, 1, none⟩ = some (.string v) ∧ w'.cell? ⟨w4.heap.size, 2, none⟩ = some (.string t))
      (first | go_keep | (go_split_ands; refine ⟨?_, ?_, ?_, ?_⟩ <;> (rw [hg2.cell_far _ (by simp; omega) (fun e => absurd (hrow _ e.symm) (by simp; omega))]; assumption)) | (go_split_ands; refine ⟨?_, ?_, ?_, ?_⟩ <;> (rw [hg.cell_far _ (by simp; omega) (by simp [Value.ownBlock]; omega)]; assumption)))
      ((first
        | (apply step_append_vs (s := .tmp 129) (x := .tmp 131) (lo := w7.heap.size) (B := w.heap.size) (l := []) (m := l) (A := A) (n := l.length) (c := cap) (v := .slice (some ⟨w7.heap.size, 0, none⟩) 0 0); (case hgd => rfl); (case ho => rfl); (case hs => rfl); (case hx => rfl); (case hn => rfl); (case hB => first | exact E1 | exact E2 | exact E3); (case hlo => (simp; try omega)); (case hv => first | exact hv.below W1 | exact hv.below W2 | exact hv.below W3); (case hlen => exact hlen40); intro v' w8 hown hg hat; rw [List.nil_append] at hown;
            (first | (have hP8 := P1.grown hg P1.size (fun k hk => by simp [Value.ownBlock] at hk; omega)) | (have hP8 := P2.grown hg P2.size (fun k hk => by simp [Value.ownBlock] at hk; omega)) | (have hP8 := P3.grown hg P3.size (fun k hk => by simp [Value.ownBlock] at hk; omega)));
            (first | (have hone' := Vs.grown (O2.drew) hg (by simp; try omega) (by simp [Value.ownBlock])) | (have hone' := Vs.grown (O3.drew) hg (by simp; try omega) (by simp [Value.ownBlock])) | (have hone' : True := trivial));
            have hs8 := hP8.size;
            have hrow : ∀ k, v'.ownBlock = some k → w7.heap.size ≤ k := (fun k hk => (hown.own k hk).1);
            obtain ⟨A8, n8, c8, rfl, hn8⟩ := hown.shape)
        | (apply step_append_vs (s := .tmp 129) (x := .tmp 131) (lo := w7.heap.size) (B := w.heap.size) (l := []) (m := l) (A := A) (n := l.length) (c := cap) (v := .slice (some ⟨w7.heap.size + 1, 0, none⟩) 0 0); (case hgd => rfl); (case ho => rfl); (case hs => rfl); (case hx => rfl); (case hn => rfl); (case hB => first | exact E1 | exact E2 | exact E3); (case hlo => (simp; try omega)); (case hv => first | exact hv.below W1 | exact hv.below W2 | exact hv.below W3); (case hlen => exact hlen40); intro v' w8 hown hg hat; rw [List.nil_append] at hown;
            (first | (have hP8 := P1.grown hg P1.size (fun k hk => by simp [Value.ownBlock] at hk; omega)) | (have hP8 := P2.grown hg P2.size (fun k hk => by simp [Value.ownBlock] at hk; omega)) | (have hP8 := P3.grown hg P3.size (fun k hk => by simp [Value.ownBlock] at hk; omega)));
            (first | (have hone' := Vs.grown (O2.drew) hg (by simp; try omega) (by simp [Value.ownBlock])) | (have hone' := Vs.grown (O3.drew) hg (by simp; try omega) (by simp [Value.ownBlock])) | (have hone' : True := trivial));
            have hs8 := hP8.size;
            have hrow : ∀ k, v'.ownBlock = some k → w7.heap.size ≤ k := (fun k hk => (hown.own k hk).1);
            obtain ⟨A8, n8, c8, rfl, hn8⟩ := hown.shape)
        | (apply step_append_vs (s := .tmp 132) (x := .tmp 134) (lo := w7.heap.size) (l := l) (m := [⟨n0, v, t⟩]) (n := 1) (c := 1) (v := .slice A8 n8 c8); (case hgd => rfl); (case ho => rfl); (case hs => rfl); (case hx => rfl); (case hn => rfl); (case hB => first | exact hown | exact hown.below ((Below.refl _ _).alloc (Nat.le_refl _) _)); (case hlo => first | exact hP8.size | exact Nat.le_trans hP8.size (by simp)); (case hv => first | exact hone' | exact Vs.one _ _ hfx); (case hlen => exact hlen41); intro v'' w9 hown2 hg2 hat2;
            (first | (have hP9 := hP8.grown hg2 hP8.size hrow) | (have hP9 := (hP8.alloc hP8.size (.cells #[.int .i64 n0, .string v, .string t] 39)).grown hg2 (Nat.le_trans hP8.size (by simp)) hrow));
            obtain ⟨A9, n9, c9, rfl, hn9⟩ := hown2.shape)))
    all_goals (go_wp2_with fail; go_meet; exact ⟨hown2, hP9⟩)
  case rest =>
    obtain ⟨hA, hBc⟩ := hcut
    obtain ⟨A20, n20, c20, rfl, hn20⟩ := hA.shape
    have F3 := F3.next hBc
    have Z3 := Z3.next hBc
    have Y3 := Y3.next hBc
    have hu2 := hu2.next hBc
    have hy2 := hy2.next hBc
    have hu3 := hu3.next hBc
    have hy3 := hy3.next hBc
    have V4 := V4.next hBc
    go_wp2_with fail
    have hE11 := (OwnV.empty wc.heap.size wc (Nat.le_refl _)).drew
    have P11 : Below wc.heap.size wc (wc.alloc (.cells #[] 39)).drew := ((Below.refl _ _).alloc (Nat.le_refl _) _).drew
    have hq11 := Z3.1.2
    have hr11 := Z3.2
    go_region_held3 (fun w' => w'.cell? ⟨w2.heap.size, 1, none⟩ = some (.slice A2 pk.length k2))
      (first | go_keep | (rw [hg2.cell_far _ (by simp; omega) (fun e => absurd (hrow _ e.symm) (by simp; omega))]; assumption) | (rw [hg.cell_far _ (by simp; omega) (by simp [Value.ownBlock]; omega)]; assumption))
      ((first
        | (apply step_append_vs (s := .tmp 136) (x := .tmp 137) (lo := wc.heap.size) (B := wc.heap.size) (l := []) (m := pd) (A := D2) (n := pd.length) (c := m2) (v := .slice (some ⟨wc.heap.size, 0, none⟩) 0 0); (case hgd => rfl); (case ho => rfl); (case hs => rfl); (case hx => rfl); (case hn => rfl); (case hB => exact hE11); (case hlo => exact P11.size); (case hv => exact (hy2.vs.below P11)); (case hlen => first | omega | (simp; omega)); intro v' w8 hown hg hat; rw [List.nil_append] at hown;
            have hP8 := P11.grown hg P11.size (fun k hk => by simp [Value.ownBlock] at hk; omega);
            have hrow : ∀ k, v'.ownBlock = some k → wc.heap.size ≤ k := (fun k hk => (hown.own k hk).1);
            have hs8 := hP8.size; obtain ⟨A8, n8, c8, rfl, hn8⟩ := hown.shape)
        | (apply step_append_vs (s := .tmp 138) (x := .tmp 140) (lo := wc.heap.size) (B := wc.heap.size) (l := pd) (m := pk) (A := A2) (n := pk.length) (c := k2) (v := .slice A8 n8 c8); (case hgd => rfl); (case ho => rfl); (case hs => rfl); (case hx => rfl); (case hn => rfl); (case hB => exact hown); (case hlo => exact hP8.size); (case hv => exact (hu2.vs.below hP8)); (case hlen => first | omega | (simp; omega)); intro v'' w9 hown2 hg2 hat2;
            have hP9 := hP8.grown hg2 hP8.size hrow;
            obtain ⟨A9, n9, c9, rfl, hn9⟩ := hown2.shape)))
    have hA1 := hA.below hP9
    have hB1 : OwnV wc.heap.size w9 (pd ++ pk) (.slice A9 n9 c9) := hown2
    have F3 := F3.next hP9
    have Z3 := Z3.next hP9
    have Y3 := Y3.next hP9
    have hu2 := hu2.next hP9
    have hy2 := hy2.next hP9
    have hu3 := hu3.next hP9
    have hy3 := hy3.next hP9
    have V4 := V4.next hP9
    clear hg hat hown hP8 hrow hn8 hown2 hg2 hat2 hE11 P11 hq11 hr11 hs8
    have HN21 := hn9
    rw [HDK.out] at hB1 HN21
    generalize hwd : w9 = wd at *
    clear hwd
    go_wp2_with fail
    have hE12 := (OwnV.empty wd.heap.size wd (Nat.le_refl _)).drew
    have P12 : Below wd.heap.size wd (wd.alloc (.cells #[] 39)).drew := ((Below.refl _ _).alloc (Nat.le_refl _) _).drew
    have hq12 := Y3.1.2
    have hr12 := Y3.2
    go_region_held3 (fun w' => w'.cell? ⟨w3.heap.size, 1, none⟩ = some (.slice A3 1 k3))
      (first | go_keep | (rw [hg2.cell_far _ (by simp; omega) (fun e => absurd (hrow _ e.symm) (by simp; omega))]; assumption) | (rw [hg.cell_far _ (by simp; omega) (by simp [Value.ownBlock]; omega)]; assumption))
      ((first
        | (apply step_append_vs (s := .tmp 142) (x := .tmp 143) (lo := wd.heap.size) (B := wd.heap.size) (l := []) (m := l) (A := D3) (n := l.length) (c := m3) (v := .slice (some ⟨wd.heap.size, 0, none⟩) 0 0); (case hgd => rfl); (case ho => rfl); (case hs => rfl); (case hx => rfl); (case hn => rfl); (case hB => exact hE12); (case hlo => exact P12.size); (case hv => exact (hy3.vs.below P12)); (case hlen => first | omega | (simp; omega)); intro v' w8 hown hg hat; rw [List.nil_append] at hown;
            have hP8 := P12.grown hg P12.size (fun k hk => by simp [Value.ownBlock] at hk; omega);
            have hrow : ∀ k, v'.ownBlock = some k → wd.heap.size ≤ k := (fun k hk => (hown.own k hk).1);
            have hs8 := hP8.size; obtain ⟨A8, n8, c8, rfl, hn8⟩ := hown.shape)
        | (apply step_append_vs (s := .tmp 144) (x := .tmp 146) (lo := wd.heap.size) (B := wd.heap.size) (l := l) (m := [⟨n0, v, t⟩]) (A := A3) (n := 1) (c := k3) (v := .slice A8 n8 c8); (case hgd => rfl); (case ho => rfl); (case hs => rfl); (case hx => rfl); (case hn => rfl); (case hB => exact hown); (case hlo => exact hP8.size); (case hv => exact (hu3.vs.below hP8)); (case hlen => first | omega | (simp; omega)); intro v'' w9 hown2 hg2 hat2;
            have hP9 := hP8.grown hg2 hP8.size hrow;
            obtain ⟨A9, n9, c9, rfl, hn9⟩ := hown2.shape)))
    have hC1 : OwnV wd.heap.size w9 (l ++ [⟨n0, v, t⟩]) (.slice A9 n9 c9) := hown2
    have hA1 := hA1.below hP9
    have hB1 := hB1.below hP9
    have F3 := F3.next hP9
    have Z3 := Z3.next hP9
    have Y3 := Y3.next hP9
    have hB9 := F3.below
    go_wp2_with fail
    refine (like_two hB1.vsAt hA1.vsAt HN21.out hn20.out).mono ?_
    rintro z w10 ⟨rfl, hb10⟩
    have F3 := F3.next hb10
    have Z3 := Z3.next hb10
    have Y3 := Y3.next hb10
    have hA1 := hA1.below hb10
    have hC1 := hC1.below hb10
    have B10 := seq hB9 hb10
    go_wp2_with fail
    refine (like_two hC1.vsAt hA1.vsAt hn9.out hn20.out).mono ?_
    rintro z w11 ⟨rfl, hb11⟩
    have F3 := F3.next hb11
    have Z3 := Z3.next hb11
    have Y3 := Y3.next hb11
    have B11 := seq B10 hb11
    obtain ⟨⟨⟨c0, c1, c2, c3, c4, c5, c6⟩, l1, l2, b1⟩, ⟨e0, e1⟩, l3⟩ := id F3
    obtain ⟨⟨z0, z1⟩, z2⟩ := id Z3
    obtain ⟨⟨y0, y1⟩, y2⟩ := id Y3
    rcases hke with hke | hke
    · have dk : ((pd.length : Int) == 0) = true := by simp; exact List.eq_nil_of_length_eq_zero hke
      go_wp2_with fail
      go_ret
      exact ⟨rfl, B11⟩
    · have dk : ((pk.length : Int) == e) = true := by simp [hke]
      have dl : decide ((pd.length : Int) ≤ 1) = true := decide_eq_true (by omega)
      by_cases h0 : pd.length = 0
      · have dz : ((pd.length : Int) == 0) = true := by simp; exact List.eq_nil_of_length_eq_zero h0
        go_wp2_with fail
        go_ret
        exact ⟨rfl, B11⟩
      · have dz : ((pd.length : Int) == 0) = false := beq_eq_false_iff_ne.2 (by omega)
        go_wp2_with fail
        go_ret
        exact ⟨rfl, B11⟩
end Go.Proofs.Ytolngibmfffjcaa.vers

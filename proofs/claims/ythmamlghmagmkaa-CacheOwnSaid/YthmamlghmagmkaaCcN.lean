/- CacheOwn. -/
import Derived.Test.YthmamlghmagmkaaCcM
import Derived.Test.YthmamlghmagmkaaCcS
import Derived.Test.YthmamlghmagmkaaNeQ2


namespace Go.Proofs.Ythmamlghmagmkaa.caches
set_option linter.unusedVariables false
set_option linter.unusedSimpArgs false
open Go.RowKit Go.Proofs.Ythmamlghmagmkaa.base Go.Proofs.Ythmamlghmagmkaa.vers Go.Proofs.Ythmamlghmagmkaa.nodes Go.Proofs.Ythmamlghmagmkaa.trees

theorem put_first (room : Nat) (r : R) (n : P3) (h : 0 < room) : putP room [] r n = (0, [(r, n, 0)]) := by
  unfold putP makeP atR outL
  simp [h]
theorem at_first (r : R) (n : P3) (k : Nat) : atR [(r, n, k)] r = some 0 := by
  unfold atR
  simp
theorem OwnNF.sizes {w : World} {F : Nat → Prop} {x : N} (h : OwnNF w F x) : x.es.length * 40 ≤ 140737488355328 ∧ x.ks.length * 48 ≤ 140737488355328 ∧ ∀ y ∈ x.es, y.l.length * 40 ≤ 140737488355328 := ⟨h.1.2.1, h.2.1.2.1, fun y hy => (h.1.2.2.2 y hy).1.2.1⟩
/-- what must stay: what came in, and the cache, which keeps one node -/
structure OwI (W wr : World) (q0 p g : Nat) (Z : Nat → Prop) (f m : Nat) (r : R) (n : P3) (l : List H) : Prop where
  below : Below (q0 + 1) W wr
  ca : Ca wr p g Z 2 f m l
  eq : l.map H.ph = [(r, n, 0)]
  z : ∀ b, Z b → q0 + 1 ≤ b
  q : q0 + 1 ≤ wr.heap.size
section
variable {W wr w' : World} {q0 p g f m f' m' : Nat} {Z Z' : Nat → Prop} {r : R} {n : P3} {l l' : List H}
theorem OwI.next (h : OwI W wr q0 p g Z f m r n l) (hb : Below wr.heap.size wr w') : OwI W w' q0 p g Z f m r n l := ⟨h.below.trans (hb.mono h.q), h.ca.below hb, h.eq, h.z, Nat.le_trans h.q hb.size⟩
theorem OwI.keep {S : Nat → Prop} (h : OwI W wr q0 p g Z f m r n l) (hk : Keep S wr w') (hS : ∀ b, S b → q0 + 1 ≤ b ∧ ¬ Z b) : OwI W w' q0 p g Z f m r n l := ⟨h.below.trans (hk.below (fun b hb => (hS b hb).1) h.q), h.ca.keep hk (fun b hb e => (hS b e).2 hb), h.eq, h.z, Nat.le_trans h.q hk.size⟩
theorem OwI.len (h : OwI W wr q0 p g Z f m r n l) : l.length = 1 := by have := congrArg List.length h.eq; simpa using this
theorem OwI.node (h : OwI W wr q0 p g Z f m r n l) (h0 : 0 < l.length) : l[0].n.p = n := by
  have := congrArg (fun l => l[0]?) h.eq
  simp only [List.getElem?_map, List.getElem?_eq_getElem h0, Option.map_some, List.getElem?_cons_zero, Option.some.injEq] at this
  exact congrArg (fun x => x.2.1) this
theorem mvL_one {l : List H} (h : l.length = 1) : mvL l 0 = l := by
  match l, h with
  | [x], _ => rfl
theorem OwI.got (h : OwI W wr q0 p g Z f m r n l) (hc : Ca w' p g Z 2 f' m' (mvL l 0)) (hk : Keep Z wr w') : OwI W w' q0 p g Z f' m' r n l := by
  rw [mvL_one h.len] at hc
  exact ⟨h.below.trans (hk.below (fun b hb => h.z b hb) h.q), hc, h.eq, h.z, Nat.le_trans h.q hk.size⟩
end

set_option maxRecDepth 100000 in
set_option maxHeartbeats 8000000 in
theorem law_own (lf : Bool) (es : List E) (ks : List K) (A : Option Addr) (c : Nat) (Q : Option Addr) (m : Nat) (w : World) (hv : Es w w.heap.size es A c) (hk : Ks w w.heap.size ks Q m) :
    Calls Try.prog 11 #[.agg #[.bool lf, .slice A es.length c, .slice Q ks.length m]] w fun e w' => e = .returned (.bool true) ∧ Below w.heap.size w w' := by
  have bA : Below w.heap.size w (w.alloc (.cells #[.bool lf, .slice A es.length c, .slice Q ks.length m] 60)) := (Below.refl _ _).alloc (Nat.le_refl _) _
  have kA := Blk.new w 60 #[.bool lf, .slice A es.length c, .slice Q ks.length m]
  have HV := vers.lay (And.intro hv hk)
  obtain ⟨r1, hr1⟩ : ∃ r1, ofP 1 = r1 := ⟨_, rfl⟩
  have hft := ofP_fits 1
  rw [hr1] at hft
  obtain ⟨rk, rg, ro, rn⟩ := r1
  have hrr : (ofP 1).val = .agg #[.int .u64 (rk : Int), .int .i64 rg, .int .i64 ro, .int .i64 rn] := by rw [hr1]
  have HFT := vers.lay hft
  clear hv hk hft hr1
  go_enter Try.func11, Try.ntmps11
  go_upto_region 1 with (fail)
  generalize hW : w.alloc (.cells #[.bool lf, .slice A es.length c, .slice Q ks.length m] 60) = W at bA kA ⊢
  obtain ⟨q0, hq0⟩ : ∃ q0, w.heap.size = q0 := ⟨_, rfl⟩
  have hWs : W.heap.size = q0 + 1 := by rw [← hW, ← hq0]; simp
  rw [hq0] at kA ⊢
  have HQ0 := vers.lay (And.intro hq0 hWs)
  clear hW hq0 hWs
  have BA := vers.lay bA
  have KA := vers.lay kA
  clear bA kA
  have hnew : Calls Try.prog 46 #[.int .i64 2] W _ := new_ok 2 W (by omega)
  go_upto_region 4 with (go_at_call 46; refine hnew.mono ?_; rintro e w1 ⟨p, g, rfl, hc1, hb1⟩)
  have H1 := vers.lay (show Below (q0 + 1) W w1 ∧ Ca w1 p g (fun b => W.heap.size ≤ b ∧ b < w1.heap.size) 2 0 0 [] from ⟨by rw [← HQ0.out.2]; exact hb1, hc1⟩)
  have B1 := vers.lay hb1
  have s1 := hb1.size
  clear hnew hc1 hb1
  have kA1 := KA.out.below B1.out KA.out.lt
  have hv1 := HV.out.1.at_world (BA.out.trans (B1.out.mono BA.out.size))
  have hk1 := (HV.out.2.below (BA.out.trans (B1.out.mono BA.out.size))).more (Nat.le_trans BA.out.size s1)
  obtain ⟨n0, n1, n2⟩ : w1.cell? ⟨q0, 0, none⟩ = _ ∧ w1.cell? ⟨q0, 1, none⟩ = _ ∧ w1.cell? ⟨q0, 2, none⟩ = _ := ⟨kA1.cell 0, kA1.cell 1, kA1.cell 2⟩
  simp only [List.getElem?_toArray, List.getElem?_cons_zero, List.getElem?_cons_succ] at n0 n1 n2
  have hq0l := kA1.lt
  have hcp := copy6_any lf es ks A c Q m w1 hv1 hk1
  clear kA1 hv1 hk1
  go_upto_region 5 with (go_at_call 69; refine hcp.mono ?_; rintro e w2 ⟨hb2, es1, A1, c1, Q1, m1, rfl, hpe, _, _, hO2⟩)
  clear n0 n1 n2 hq0l hcp
  obtain ⟨y1, hy1⟩ : ∃ y1 : N, y1 = ⟨lf, es1, ks, A1, c1, Q1, m1⟩ := ⟨_, rfl⟩
  have hyl : lf = y1.lf := by rw [hy1]
  have hye : es1 = y1.es := by rw [hy1]
  have hyk : ks = y1.ks := by rw [hy1]
  have hyA : A1 = y1.A := by rw [hy1]
  have hyc : c1 = y1.c := by rw [hy1]
  have hyQ : Q1 = y1.Q := by rw [hy1]
  have hym : m1 = y1.m := by rw [hy1]
  rw [← hy1] at hO2
  have HP1 := vers.lay (show y1.p = (lf, es.map pe, ks) by rw [hy1]; unfold N.p; rw [hpe])
  have b3 : Below w2.heap.size w2 (w2.alloc (.cells #[.bool y1.lf, .slice y1.A y1.es.length y1.c, .slice y1.Q y1.ks.length y1.m] 60)) := (Below.refl _ _).alloc (Nat.le_refl _) _
  have k3 := Blk.new w2 60 #[.bool y1.lf, .slice y1.A y1.es.length y1.c, .slice y1.Q y1.ks.length y1.m]
  have HY1 := vers.lay hO2
  have B12 := vers.lay hb2
  have hsz3 : (w2.alloc (.cells #[.bool y1.lf, .slice y1.A y1.es.length y1.c, .slice y1.Q y1.ks.length y1.m] 60)).heap.size = w2.heap.size + 1 := by simp
  rw [show (Value.bool lf) = .bool y1.lf by rw [← hyl], show Value.slice A1 es1.length c1 = .slice y1.A y1.es.length y1.c by rw [← hyA, ← hye, ← hyc], show Value.slice Q1 ks.length m1 = .slice y1.Q y1.ks.length y1.m by rw [← hyQ, ← hyk, ← hym]]
  clear hpe hy1 hyl hye hyk hyA hyc hyQ hym hO2 hb2
  generalize hW3 : w2.alloc (.cells #[.bool y1.lf, .slice y1.A y1.es.length y1.c, .slice y1.Q y1.ks.length y1.m] 60) = W3 at *
  obtain ⟨q5, hq5⟩ : ∃ q5, w2.heap.size = q5 := ⟨_, rfl⟩
  rw [hq5] at k3 ⊢
  have HQ5 := vers.lay (And.intro hq5 hsz3)
  clear hW3 hq5 hsz3
  have B23 := vers.lay b3
  have B13 := vers.lay (B12.out.trans (b3.mono B12.out.size))
  have K5 := vers.lay k3
  obtain ⟨n0, n1, n2⟩ : W3.cell? ⟨q5, 0, none⟩ = _ ∧ W3.cell? ⟨q5, 1, none⟩ = _ ∧ W3.cell? ⟨q5, 2, none⟩ = _ := ⟨k3.cell 0, k3.cell 1, k3.cell 2⟩
  simp only [List.getElem?_toArray, List.getElem?_cons_zero, List.getElem?_cons_succ] at n0 n1 n2
  have hq5l := k3.lt
  have hS0 : Below W3.heap.size W3 W3.drew := (Below.refl _ _).drew
  clear b3 k3
  refine mix.region_D (fun w' => Below W3.heap.size W3 w') (fun j => j == 3 || j == 4) (by kernel_rfl) ?_
  generalize W3.drew = Wd at *
  refine mix.D_takeT (i := 0) (v := ?_) rfl (by kernel_rfl) (by kernel_rfl) (fun _ _ _ h => h) (Or.inl ⟨by first | rfl | simp [Region.wanted, yielded], ?_⟩) hS0 ?_
  rotate_left
  · intro w' hSw
    have z0 := (hSw.cell (p := ⟨q5, 0, none⟩) hq5l).trans n0
    have z1 := (hSw.cell (p := ⟨q5, 1, none⟩) hq5l).trans n1
    have z2 := (hSw.cell (p := ⟨q5, 2, none⟩) hq5l).trans n2
    try simp only [List.getElem_toArray, List.getElem_cons_zero, List.getElem_cons_succ]
    go_simp
    exact rfl
  try simp only [Act.put, List.setIfInBounds_toArray, List.set_cons_zero, List.set_cons_succ, List.getElem_toArray, List.getElem_cons_zero, List.getElem_cons_succ]
  refine mix.D_takeT (i := 2) (v := ?_) rfl (by kernel_rfl) (by kernel_rfl) (fun _ _ _ h => h) (Or.inl ⟨by first | rfl | simp [Region.wanted, yielded], ?_⟩) hS0 ?_
  rotate_left
  · intro w' hSw
    have z0 := (hSw.cell (p := ⟨q5, 0, none⟩) hq5l).trans n0
    have z1 := (hSw.cell (p := ⟨q5, 1, none⟩) hq5l).trans n1
    have z2 := (hSw.cell (p := ⟨q5, 2, none⟩) hq5l).trans n2
    try simp only [List.getElem_toArray, List.getElem_cons_zero, List.getElem_cons_succ]
    go_simp
    exact rfl
  try simp only [Act.put, List.setIfInBounds_toArray, List.set_cons_zero, List.set_cons_succ, List.getElem_toArray, List.getElem_cons_zero, List.getElem_cons_succ]
  refine mix.D_op (k := 1) rfl rfl (by kernel_rfl) (fun K' hK => ?_)
  simp only [List.getElem_toArray, List.getElem_cons_zero, List.getElem_cons_succ]
  go_wp2_with fail
  refine (of_any 1 Wd (by constructor <;> decide)).mono ?_
  rintro e w4 ⟨rfl, hb4⟩
  rw [hrr]
  have hs4 : Below W3.heap.size W3 w4 := hS0.trans (hb4.mono hS0.size)
  refine hK.out _ _ (fun _ => hs4) ?_
  clear hK K'
  try simp only [Act.put, List.setIfInBounds_toArray, List.set_cons_zero, List.set_cons_succ]
  refine mix.D_op (k := 3) rfl rfl (by kernel_rfl) (fun K' hK => ?_)
  simp only [List.getElem_toArray, List.getElem_cons_zero, List.getElem_cons_succ]
  have HC4 := vers.lay ((H1.out.2.below B13.out).below hs4)
  have hy4 := HY1.out.agree (Agree.of_below ((B23.out.trans (hs4.mono B23.out.size)) : Below w2.heap.size w2 w4) fun b hb => hb.2)
  have hput := put_ok HC4.out rk rg ro rn HFT.out y1.lf y1.es y1.ks y1.A y1.c y1.Q y1.m (fun b => w1.heap.size ≤ b ∧ b < w2.heap.size) hy4.ns (fun b hb => ⟨by have := hs4.size; have := B23.out.size; omega, fun hz => by have := H1.out.2.zlt b hz; omega⟩)
  clear hy4
  go_wp2_with fail
  refine hput.mono ?_
  rintro e w5 ⟨E5, l5, Z5, rfl, hE5, hc5, hk5, hz5⟩
  refine hK.out _ _ (fun h => by simp at h) ?_
  clear hK K'
  try simp only [Act.put, List.setIfInBounds_toArray, List.set_cons_zero, List.set_cons_succ]
  refine mix.D_op (k := 4) rfl rfl (by kernel_rfl) (fun K' hK => ?_)
  simp only [List.getElem_toArray, List.getElem_cons_zero, List.getElem_cons_succ]
  go_wp2_with fail
  refine hK.out _ _ (fun h => by simp at h) ?_
  clear hK K'
  try simp only [Act.put, List.setIfInBounds_toArray, List.set_cons_zero, List.set_cons_succ]
  refine mix.D_done (by kernel_rfl) ?_ _
  try simp only [Act.put, List.setIfInBounds_toArray, List.set_cons_zero, List.set_cons_succ, List.getElem_toArray, List.getElem_cons_zero, List.getElem_cons_succ]
  rw [List.map_nil, put_first 2 _ _ (by decide)] at hE5
  obtain ⟨rfl, hl5⟩ : E5 = 0 ∧ l5.map H.ph = [(⟨rk, rg, ro, rn⟩, (y1.lf, y1.es.map pe, y1.ks), 0)] := by simpa using hE5
  have s13 := B13.out.size
  have s4 := hs4.size
  have s5 := hk5.size
  have hz1 : ∀ b, W.heap.size ≤ b ∧ b < w1.heap.size → q0 + 1 ≤ b := fun b hb => by have := HQ0.out.2; omega
  have HI := vers.lay (show OwI W w5 q0 p g Z5 0 0 ⟨rk, rg, ro, rn⟩ y1.p l5 from ⟨by
      have h14 : Below (q0 + 1) W w4 := by rw [← HQ0.out.2]; exact (B1.out.trans ((B13.out.trans (hs4.mono s13)).mono s1))
      exact h14.trans (hk5.below (fun b hb => hz1 b hb) (by have := HQ0.out.2; omega)), hc5, hl5, fun b hb => by
      rcases hz5 b hb with h | h
      · exact hz1 b h
      · have := HQ0.out.2; omega, by have := HQ0.out.2; omega⟩)
  have hfar5 : ∀ b, w1.heap.size ≤ b → b < W3.heap.size → ¬ (W.heap.size ≤ b ∧ b < w1.heap.size) := fun b h1 _ h => by omega
  have K55 := vers.lay (hk5.blk (K5.out.below hs4 K5.out.lt) (fun h => by have := HQ5.out.1; have := B12.out.size; omega))
  have HY5 := vers.lay (HY1.out.agree (w' := w5) fun b hb => (hk5.block b (by have := HQ5.out; omega) (fun h => by omega)).trans (((B23.out.trans (hs4.mono B23.out.size)) : Below w2.heap.size w2 w4).block b hb.2))
  have HZ5 := vers.lay (fun b (hb : Z5 b) => (show b < w1.heap.size ∨ w2.heap.size ≤ b from by
      rcases hz5 b hb with h | h
      · exact .inl h.2
      · have := HQ5.out; omega))
  have S5 := vers.lay (show w2.heap.size ≤ w5.heap.size ∧ w1.heap.size ≤ w2.heap.size ∧ q0 + 1 ≤ w1.heap.size from ⟨by have := HQ5.out; omega, B12.out.size, by have := HQ0.out.2; omega⟩)
  clear hE5 hl5 hz1 hfar5 hc5 hk5 hz5 hs4 hb4 n0 n1 n2 hq5l s13 s4 s5 HC4 s1
  obtain ⟨n0, n1, n2⟩ : w5.cell? ⟨q5, 0, none⟩ = _ ∧ w5.cell? ⟨q5, 1, none⟩ = _ ∧ w5.cell? ⟨q5, 2, none⟩ = _ := ⟨K55.out.cell 0, K55.out.cell 1, K55.out.cell 2⟩
  simp only [List.getElem?_toArray, List.getElem?_cons_zero, List.getElem?_cons_succ] at n0 n1 n2
  have hq5l := K55.out.lt
  have hsp := spoil_ok [y1] y1 (List.mem_singleton.2 rfl) w1.heap.size w2.heap.size w5 S5.out.1 (fun y hy => by rw [List.mem_singleton.1 hy]; exact NW.of HY5.out (fun b hb => hb)) (OwnNF.sizes HY5.out).1 (OwnNF.sizes HY5.out).2.1 (OwnNF.sizes HY5.out).2.2
  go_upto_region 7 with (go_at_call 70; refine hsp.mono ?_; rintro e w6 ⟨rfl, hsp6⟩)
  have H6 := vers.lay (HI.out.keep hsp6.keep (fun b hb => ⟨by have := S5.out; omega, fun hz => by have := HZ5.out b hz; omega⟩))
  have S6 := vers.lay hsp6.keep.size
  clear n0 n1 n2 hq5l hsp hsp6
  have ho6 := of_any 1 w6 (by constructor <;> decide)
  rw [hrr] at ho6
  have hat : ∀ (l : List H), l.map H.ph = [(⟨rk, rg, ro, rn⟩, y1.p, 0)] → atR (l.map H.ph) ⟨rk, rg, ro, rn⟩ = some 0 := fun l h => by rw [h]; exact at_first _ _ _
  have HAT := vers.lay hat
  clear hat
  go_upto_region 8 with (first | (go_at_call 49; refine ho6.mono ?_; rintro e w7 ⟨rfl, hb7⟩; have H7 := vers.lay (H6.out.next hb7); have hget := get_yes H7.out.ca rk rg ro rn 0 (HAT.out _ H7.out.eq) (by rw [H7.out.len]; exact Nat.one_pos) (by decide)) | (go_at_call 50; refine hget.mono ?_; rintro e w8 ⟨y8, rfl, hyp8, hyo8, hyc8, hyk8⟩))
  have H8 := vers.lay (H7.out.got hyc8 hyk8)
  have HP8 := vers.lay (hyp8.trans (H7.out.node (by rw [H7.out.len]; exact Nat.one_pos)))
  have HY8 := vers.lay hyo8
  have S8 := vers.lay (And.intro S6.out (And.intro hb7.size hyk8.size))
  clear hyp8 hyo8 hyc8 hyk8 hget hb7 ho6
  have b9 : Below w8.heap.size w8 (w8.alloc (.cells #[.bool y8.lf, .slice y8.A y8.es.length y8.c, .slice y8.Q y8.ks.length y8.m] 60)) := (Below.refl _ _).alloc (Nat.le_refl _) _
  have k9 := Blk.new w8 60 #[.bool y8.lf, .slice y8.A y8.es.length y8.c, .slice y8.Q y8.ks.length y8.m]
  generalize hW9 : w8.alloc (.cells #[.bool y8.lf, .slice y8.A y8.es.length y8.c, .slice y8.Q y8.ks.length y8.m] 60) = W9 at *
  obtain ⟨q9, hq9⟩ : ∃ q9, w8.heap.size = q9 := ⟨_, rfl⟩
  rw [hq9] at k9 ⊢
  clear hW9
  have H9 := vers.lay (H8.out.next b9)
  have HY9 := vers.lay (HY8.out.agree (Agree.of_below b9 fun b hb => hb.2))
  have S9 := vers.lay (And.intro hq9 b9.size)
  obtain ⟨n0, n1, n2⟩ : W9.cell? ⟨q9, 0, none⟩ = _ ∧ W9.cell? ⟨q9, 1, none⟩ = _ ∧ W9.cell? ⟨q9, 2, none⟩ = _ := ⟨k9.cell 0, k9.cell 1, k9.cell 2⟩
  simp only [List.getElem?_toArray, List.getElem?_cons_zero, List.getElem?_cons_succ] at n0 n1 n2
  have hq9l := k9.lt
  have hsp := spoil_ok [y8] y8 (List.mem_singleton.2 rfl) w7.heap.size w8.heap.size W9 b9.size (fun y hy => by rw [List.mem_singleton.1 hy]; exact NW.of HY9.out (fun b hb => hb)) (OwnNF.sizes HY9.out).1 (OwnNF.sizes HY9.out).2.1 (OwnNF.sizes HY9.out).2.2
  clear b9 k9 hq9
  go_upto_region 9 with (go_at_call 70; refine hsp.mono ?_; rintro e w10 ⟨rfl, hsp10⟩)
  have H10 := vers.lay (H9.out.keep hsp10.keep (fun b hb => ⟨by have := H7.out.q; omega, fun hz => by have := H7.out.ca.zlt b hz; omega⟩))
  have hsz10 := hsp10.keep.size
  clear n0 n1 n2 hq9l hsp hsp10
  have hho := holds_ok H10.out.ca
  have S10 := vers.lay (show W9.heap.size ≤ w10.heap.size from hsz10)
  clear hsz10
  go_upto_region 10 with (go_at_call 62; refine hho.mono ?_; rintro e w11 ⟨v11, l11, rfl, hle11, hhf11, hb11⟩; obtain ⟨A11, c11, rfl, hc11, hn11, _⟩ := row_rdF hhf11.1)
  have H11 := vers.lay (H10.out.next hb11)
  have hl11 : l11.length ≤ 32 := by have := congrArg List.length hle11; simp [H10.out.len] at this; omega
  have HH11 := vers.lay hhf11
  have S11 := vers.lay hb11.size
  have HL0 := vers.lay (show OwI W w11 q0 p g Z5 1 0 ⟨rk, rg, ro, rn⟩ y1.p l5 ∧ SpI w11 w10.heap.size w11.heap.size (l11.map (·.n)) w11 ∧ w11.heap.size ≤ w11.heap.size from ⟨H11.out, ⟨Keep.refl _ _, fun y hy => by
      obtain ⟨x, hx, rfl⟩ := List.mem_map.1 hy
      exact NW.of (hhf11.2.2 x hx) (fun b hb => hb.1), fun b cs h => h⟩, Nat.le_refl _⟩)
  clear hho hb11 hhf11 hle11
  go_wp2_with fail
  go_loopw [42] (fun i wr => ∃ j : Nat, i = .int .i64 (j : Int) ∧ j ≤ l11.length ∧ Hid (OwI W wr q0 p g Z5 1 0 ⟨rk, rg, ro, rn⟩ y1.p l5 ∧ SpI w11 w10.heap.size w11.heap.size (l11.map (·.n)) wr ∧ w11.heap.size ≤ wr.heap.size)) (fun i _ => l11.length - (RowKit.intOf i).toNat)
  case atStart => exact ⟨0, rfl, Nat.zero_le _, HL0⟩
  case round =>
    clear HL0
    obtain ⟨j, rfl, hj, HL⟩ := hrel
    by_cases hlt : j < l11.length
    · obtain ⟨_, _, e9, _, _, hr⟩ := row_rdF (row_seen HH11.out.1 HL.out.2.1.seen)
      injection e9 with e91 _ e92
      subst e91 e92
      obtain ⟨b, off, rfl, _, y0, yy1, yy2, yy3, yy4, yy5, yy6, yy7⟩ := RdF.h_at hr hlt
      clear hr
      have hbl := World.block_lt_of_cell? _ _ y0
      have hxn := HH11.out.2.2 _ (List.getElem_mem hlt)
      have hszs := vers.lay (OwnNF.sizes hxn)
      have hmem := vers.lay (List.mem_map_of_mem (f := fun x : H => x.n) (List.getElem_mem hlt))
      generalize l11[j] = x at *
      have b3 : Below wr.heap.size wr (wr.alloc (.cells #[.int .u64 (x.r.k : Int), .int .i64 x.r.g, .int .i64 x.r.o, .int .i64 x.r.n, .bool x.n.lf, .slice x.n.A x.n.es.length x.n.c, .slice x.n.Q x.n.ks.length x.n.m, .int .i64 (x.p : Int)] 135)) := (Below.refl _ _).alloc (Nat.le_refl _) _
      have k3 := Blk.new wr 135 #[.int .u64 (x.r.k : Int), .int .i64 x.r.g, .int .i64 x.r.o, .int .i64 x.r.n, .bool x.n.lf, .slice x.n.A x.n.es.length x.n.c, .slice x.n.Q x.n.ks.length x.n.m, .int .i64 (x.p : Int)]
      clear hxn
      go_upto_region 12 with (fail)
      generalize wr.alloc (.cells #[.int .u64 (x.r.k : Int), .int .i64 x.r.g, .int .i64 x.r.o, .int .i64 x.r.n, .bool x.n.lf, .slice x.n.A x.n.es.length x.n.c, .slice x.n.Q x.n.ks.length x.n.m, .int .i64 (x.p : Int)] 135) = W12 at *
      have HS12 := vers.lay (HL.out.2.1.next b3 HL.out.2.2)
      have HO12 := vers.lay (HL.out.1.next b3)
      have hs12 : w11.heap.size ≤ W12.heap.size := Nat.le_trans HL.out.2.2 b3.size
      obtain ⟨n0, n1, n2⟩ : W12.cell? ⟨wr.heap.size, 4, none⟩ = _ ∧ W12.cell? ⟨wr.heap.size, 5, none⟩ = _ ∧ W12.cell? ⟨wr.heap.size, 6, none⟩ = _ := ⟨k3.cell 4, k3.cell 5, k3.cell 6⟩
      simp only [List.getElem?_toArray, List.getElem?_cons_zero, List.getElem?_cons_succ] at n0 n1 n2
      have hql := k3.lt
      have hsp := spoil_ok (l11.map (·.n)) x.n hmem.out w10.heap.size w11.heap.size W12 hs12 HS12.out.nodes hszs.out.1 hszs.out.2.1 hszs.out.2.2
      clear k3 b3 y0 yy1 yy2 yy3 yy4 yy5 yy6 yy7
      go_wp2_with (go_at_call 70; refine hsp.mono ?_; rintro e w13 ⟨rfl, hsp13⟩)
      have HL2 := vers.lay (show OwI W w13 q0 p g Z5 1 0 ⟨rk, rg, ro, rn⟩ y1.p l5 ∧ SpI w11 w10.heap.size w11.heap.size (l11.map (·.n)) w13 ∧ w11.heap.size ≤ w13.heap.size from ⟨HO12.out.keep hsp13.keep (fun b hb => ⟨by have := H10.out.q; omega, fun hz => by have := H10.out.ca.zlt b hz; omega⟩), HS12.out.trans hsp13, Nat.le_trans hs12 hsp13.keep.size⟩)
      go_roundw
      case rel => exact ⟨j + 1, by go_num, hlt, HL2⟩
      case measure => first | (simp [RowKit.intOf]; done) | (simp [RowKit.intOf]; omega) | omega
    · obtain rfl : j = l11.length := by omega
      generalize wr = w14 at *
      clear wr
      have H14 := vers.lay HL.out.1
      clear HL HH11 hl11
      have ho14 := of_any 1 w14 (by constructor <;> decide)
      rw [hrr] at ho14
      go_upto_region 15 with (first | (go_at_call 49; refine ho14.mono ?_; rintro e w15 ⟨rfl, hb15⟩; have H15 := vers.lay (H14.out.next hb15); have hget := get_yes H15.out.ca rk rg ro rn 0 (HAT.out _ H15.out.eq) (by rw [H15.out.len]; exact Nat.one_pos) (by decide)) | (go_at_call 50; refine hget.mono ?_; rintro e w16 ⟨y16, rfl, hyp16, hyo16, hyc16, hyk16⟩))
      have H16 := vers.lay (H15.out.got hyc16 hyk16)
      have HP16 := vers.lay (hyp16.trans (H15.out.node (by rw [H15.out.len]; exact Nat.one_pos)))
      have HY16 := vers.lay hyo16
      clear hyp16 hyo16 hyc16 hyk16 hget hb15 ho14
      have b17 : Below w16.heap.size w16 (w16.alloc (.cells #[.bool y16.lf, .slice y16.A y16.es.length y16.c, .slice y16.Q y16.ks.length y16.m] 60)) := (Below.refl _ _).alloc (Nat.le_refl _) _
      have k17 := Blk.new w16 60 #[.bool y16.lf, .slice y16.A y16.es.length y16.c, .slice y16.Q y16.ks.length y16.m]
      generalize hW17 : w16.alloc (.cells #[.bool y16.lf, .slice y16.A y16.es.length y16.c, .slice y16.Q y16.ks.length y16.m] 60) = W17 at *
      clear hW17
      have H17 := vers.lay (H16.out.next b17)
      have hN17 := (HY16.out.agree (Agree.of_below b17 fun b hb => hb.2)).ns
      obtain ⟨n0, n1, n2⟩ : W17.cell? ⟨w16.heap.size, 0, none⟩ = _ ∧ W17.cell? ⟨w16.heap.size, 1, none⟩ = _ ∧ W17.cell? ⟨w16.heap.size, 2, none⟩ = _ := ⟨k17.cell 0, k17.cell 1, k17.cell 2⟩
      have hbl := k17.lt
      have kA2 := KA.out.below H17.out.below (by omega)
      obtain ⟨a0, a1, a2⟩ : W17.cell? ⟨q0, 0, none⟩ = _ ∧ W17.cell? ⟨q0, 1, none⟩ = _ ∧ W17.cell? ⟨q0, 2, none⟩ = _ := ⟨kA2.cell 0, kA2.cell 1, kA2.cell 2⟩
      simp only [List.getElem?_toArray, List.getElem?_cons_zero, List.getElem?_cons_succ] at n0 n1 n2 a0 a1 a2
      have hal := kA2.lt
      have bw : Below w.heap.size w W17 := BA.out.trans (H17.out.below.mono (by have := HQ0.out; omega))
      have hlk := likeN_any y16.lf lf y16.es es y16.ks ks y16.A A y16.c c y16.Q Q y16.m m W17 hN17.1.es (HV.out.1.at_world bw) hN17.2.ks ((HV.out.2.below bw).more bw.size)
      have hd : decide (y16.lf = lf ∧ y16.es.map pe = es.map pe ∧ y16.ks = ks) = true := decide_eq_true (by
        have e := HP16.out.trans HP1.out
        simp only [N.p, Prod.mk.injEq] at e
        exact e)
      rw [hd] at hlk
      have BW := vers.lay bw
      clear hd bw hN17 k17 kA2 b17
      go_wp2_with (go_at_call 52; refine hlk.mono ?_; rintro e w18 ⟨rfl, hb18⟩)
      go_ret
      exact ⟨rfl, BW.out.trans (hb18.mono BW.out.size)⟩
end Go.Proofs.Ythmamlghmagmkaa.caches

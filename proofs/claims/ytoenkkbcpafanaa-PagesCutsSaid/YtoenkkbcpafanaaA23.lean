/- Cache's Put. -/
import Derived.Test.YtoenkkbcpafanaaA22


namespace Go.Proofs.Ytoenkkbcpafanaa.caches
set_option linter.unusedVariables false
set_option linter.unusedSimpArgs false
open Go.RowKit Go.Proofs.Ytoenkkbcpafanaa.base Go.Proofs.Ytoenkkbcpafanaa.vers Go.Proofs.Ytoenkkbcpafanaa.nodes Go.Proofs.Ytoenkkbcpafanaa.trees

theorem run_put_in {P : Program} {e tS : TypeId} {i0 : TypeInfo} {size : Nat} (hun : P.underlying tS = some (.slice e)) (hi0 : P.info? e = some i0) (hz1 : i0.size = size)
    {w : World} {g n cap : Nat} {xs : List Value} {cs : Array Value} (ty : TypeId) (hown : w.ownsRow 0 e size (.slice (some ⟨g, 0, none⟩) n cap) n xs) (hcs : cs.toList.length = size) (h1 : ∀ u ∈ cs.toList, u.oneCell' = true) (hroom : n + 1 ≤ cap) :
    ∃ w', (Builtin.append_ #[tS, tS] ty #[.slice (some ⟨g, 0, none⟩) n cap, .slice (some ⟨w.heap.size, 0, none⟩) 1 1]).run P (w.alloc (.cells cs e)) = .ok (.slice (some ⟨g, 0, none⟩) (n + 1) cap) w' ∧ w'.ownsRow 0 e size (.slice (some ⟨g, 0, none⟩) (n + 1) cap) (n + 1) (xs ++ cs.toList) ∧ Keep (fun b => b = g) w w' ∧ w.heap.size + 1 ≤ w'.heap.size := by
  have hownA : (w.alloc (.cells cs e)).ownsRow 0 e size (.slice (some ⟨g, 0, none⟩) n cap) n xs := row_below hown ((Below.refl _ _).alloc (Nat.le_refl _) _)
  have hnews := World.news_of_block (cs := cs) (t := e) (fr := (0, 0)) (heap_alloc_new w (.cells cs e))
  obtain ⟨w', hr, ho', hg⟩ := run_append_fits (P := P) (w := w.alloc (.cells cs e)) 0 tS ty e i0 size hun hi0 hz1 g n cap xs hownA ⟨w.heap.size, 0, none⟩ 1 1 cs.toList (by omega) hnews h1 hroom
  have hz := hg.size
  simp only [World.size_alloc] at hz
  exact ⟨w', hr, ho', ⟨hg.os, hg.tape, hg.output, by omega, fun k hk hn => (hg.block k (by simp; omega) (fun e => hn (Option.some.inj e))).trans (Below.heap_alloc w _ k hk)⟩, hz⟩
theorem wp_put_in {e tS : TypeId} {i0 : TypeInfo} {size : Nat} (hun : Try.prog.underlying tS = some (.slice e)) (hi0 : Try.prog.info? e = some i0) (hz1 : i0.size = size)
    {o : Oper} {a : Act} {K : Act → World → Prop} {Q : Exit → Act → World → Prop} (s x : Operand) (ho : o.op = .call { callee := .builtin .append, args := #[s, x], argTypes := #[tS, tS] })
    {w : World} {g n cap : Nat} {xs : List Value} {cs : Array Value} (hown : w.ownsRow 0 e size (.slice (some ⟨g, 0, none⟩) n cap) n xs) (hs : a.eval s = .slice (some ⟨g, 0, none⟩) n cap) (hcs : cs.toList.length = size) (h1 : ∀ u ∈ cs.toList, u.oneCell' = true) {q : Nat} (hx : a.eval x = .slice (some ⟨q, 0, none⟩) 1 1) (hqz : q = w.heap.size) (hroom : n + 1 ≤ cap)
    (h : ∀ w', w'.ownsRow 0 e size (.slice (some ⟨g, 0, none⟩) (n + 1) cap) (n + 1) (xs ++ cs.toList) → Keep (fun b => b = g) w w' → w.heap.size + 1 ≤ w'.heap.size → K (a.put o.dst (.slice (some ⟨g, 0, none⟩) (n + 1) cap)) w') :
    Oper.wp Try.prog o a (w.alloc (.cells cs e)) K Q := by
  subst hqz
  obtain ⟨w', hr, h2, h3, h4⟩ := run_put_in hun hi0 hz1 o.type hown hcs h1 hroom
  unfold Oper.wp execOp
  simp only [ho, resolve, invoke, builtin, Sem.run_bind, Sem.run_pure, Result.andThen_ok, List.map_toArray, List.map_cons, List.map_nil, hs, hx, hr]
  exact h w' h2 h3 h4

def pinsAt (l : List PH) (i : Nat) : Nat := (l[i]?.map (fun x => x.2.2)).getD 0
def putP (room : Nat) (l : List PH) (r : R) (n : P3) : Int × List PH := match atR l r with
  | some i => (0, outL l i ++ [(r, n, pinsAt l i)])
  | none => if (makeP room l).1 = 0 then (0, (makeP room l).2 ++ [(r, n, 0)]) else makeP room l
theorem atR_lt {l : List PH} {r : R} {i : Nat} (h : atR l r = some i) : ∃ hi : i < l.length, l[i].1 = r := by
  unfold atR at h
  rw [List.findIdx?_eq_some_iff_getElem] at h
  obtain ⟨h, h1, _⟩ := h
  exact ⟨h, by simpa using h1⟩
theorem makeP_len {room : Nat} {l : List PH} (h : l.length ≤ room) (h0 : (makeP room l).1 = 0) : (makeP room l).2.length < room := by
  unfold makeP at h0 ⊢
  split
  · assumption
  · rename_i hc
    rw [if_neg hc] at h0
    split
    · rename_i e
      rw [e] at h0
      simp at h0
    · rename_i j e
      have hj : j < l.length := by
        unfold freeP at e
        rw [List.findIdx?_eq_some_iff_getElem] at e
        exact e.1
      show (outL l j).length < room
      rw [outL_len l hj]
      omega
section
variable {w w' w2 : World} {p g room f m : Nat} {Z : Nat → Prop} {l l' : List H}
theorem Ca.grow {W wx w9 w10 : World} {r : R} {y : N} {pn : Nat} (h : Ca wx p g Z room f m l) (hr : r.fits) (hb : Below wx.heap.size wx w9) (hy : OwnNF w9 (fun b => wx.heap.size ≤ b ∧ b < w9.heap.size) y) (ho : w10.ownsRow 0 110 8 (.slice (some ⟨g, 0, none⟩) (l.length + 1) room) (l.length + 1) (cellsH l ++ (⟨r, y, pn, fun b => wx.heap.size ≤ b ∧ b < w9.heap.size⟩ : H).cells)) (hk : Keep (fun b => b = g) w9 w10) (hW : W.heap.size ≤ wx.heap.size) :
    Ca (w10.setCell ⟨p, 0, none⟩ (.slice (some ⟨g, 0, none⟩) (l.length + 1) room)) p g (fun b => Z b ∨ (W.heap.size ≤ b ∧ b < (w10.setCell ⟨p, 0, none⟩ (.slice (some ⟨g, 0, none⟩) (l.length + 1) room)).heap.size)) room f m (l ++ [⟨r, y, pn, fun b => wx.heap.size ≤ b ∧ b < w9.heap.size⟩]) ∧ Keep Z wx (w10.setCell ⟨p, 0, none⟩ (.slice (some ⟨g, 0, none⟩) (l.length + 1) room)) := by
  have sz : (w10.setCell ⟨p, 0, none⟩ (.slice (some ⟨g, 0, none⟩) (l.length + 1) room)).heap.size = w10.heap.size := by simp
  rw [sz]
  have s9 := hb.size
  have s10 := hk.size
  have far : ∀ k, k ≠ p → (w10.setCell ⟨p, 0, none⟩ (.slice (some ⟨g, 0, none⟩) (l.length + 1) room)).heap[k]? = w10.heap[k]? := fun k hk => Below.heap_setCell _ _ _ _ (by simpa using hk)
  have hpl := h.head.1
  have hgl := h.head.2.1
  have kp : Blk w10 p _ _ := hk.blk (h.blk.below hb hpl) (fun e => h.ne e.symm)
  refine ⟨⟨?_, ?_, h.cap, h.ne, fun b hb => ?_, .inl h.zp, .inl h.zg, fun x hx => ?_, ?_, fun x hx => ?_⟩, ?_⟩
  · rw [List.length_append, List.length_singleton]
    simpa using kp.put 0 (.slice (some ⟨g, 0, none⟩) (l.length + 1) room)
  · rw [List.length_append, List.length_singleton, cellsH_app]
    exact ownsRow_agree (w := w10) (by simpa [cellsH] using ho) fun b hb => (by cases hb; exact far g h.ne)
  · rcases hb with hb | hb
    · have := h.zlt b hb; rw [sz]; omega
    · rw [sz]; exact hb.2
  · rcases List.mem_append.1 hx with hx | hx
    · have hN := h.node x hx
      refine ⟨hN.1.agree fun b hb' => ?_, fun b hb' => ⟨.inl (hN.2 b hb').1, (hN.2 b hb').2⟩⟩
      have hlt := h.zlt b (hN.2 b hb').1
      exact (far b (hN.2 b hb').2.1).trans ((hk.block b (by omega) (hN.2 b hb').2.2).trans (hb.block b hlt))
    · rw [List.mem_singleton.1 hx]
      refine ⟨hy.agree fun b hb' => ?_, fun b hb' => ⟨.inr ⟨by have := hb'.1; omega, by have := hb'.2; omega⟩, by have := hb'.1; omega, by have := hb'.1; omega⟩⟩
      exact (far b (by have := hb'.1; omega)).trans (hk.block b hb'.2 (by have := hb'.1; omega))
  · rw [List.pairwise_append]
    refine ⟨h.apart, List.pairwise_singleton _ _, fun x hx y hy b hb' hc => ?_⟩
    rw [List.mem_singleton.1 hy] at hc
    have := h.zlt b ((h.node x hx).2 b hb').1
    have := hc.1
    omega
  · rcases List.mem_append.1 hx with hx | hx
    · exact h.fits x hx
    · rw [List.mem_singleton.1 hx]; exact hr
  · refine ⟨hk.os.trans hb.os, hk.tape.trans hb.tape, hk.output.trans hb.output, by rw [sz]; omega, fun k hk1 hn => ?_⟩
    exact (far k (fun e => hn (e ▸ h.zp))).trans ((hk.block k (by omega) (fun e => hn (e ▸ h.zg))).trans (hb.block k hk1))

set_option maxRecDepth 100000 in
set_option maxHeartbeats 4000000 in
theorem put_ok (h : Ca w p g Z room f m l) (rk : Nat) (rg ro rn : Int) (hr : R.fits ⟨rk, rg, ro, rn⟩) (lf : Bool) (es : List E) (ks : List K) (A : Option Addr) (c : Nat) (Q : Option Addr) (q : Nat) (F : Nat → Prop) (hy : NsF w F ⟨lf, es, ks, A, c, Q, q⟩) (hF : ∀ b, F b → b < w.heap.size ∧ ¬ Z b) :
    Calls Try.prog 48 #[.pointer (some ⟨p, 0, none⟩), .agg #[.int .u64 (rk : Int), .int .i64 rg, .int .i64 ro, .int .i64 rn], .agg #[.bool lf, .slice A es.length c, .slice Q ks.length q]] w fun e w' => ∃ (E : Int) (l' : List H) (Z' : Nat → Prop), e = .returned (.int .i64 E) ∧ (E, l'.map H.ph) = putP room (l.map H.ph) ⟨rk, rg, ro, rn⟩ (lf, es.map pe, ks) ∧ Ca w' p g Z' room f m l' ∧ Keep Z w w' ∧ ∀ b, Z' b → Z b ∨ (w.heap.size ≤ b ∧ b < w'.heap.size) := by
  have bA : Below w.heap.size w ((w.alloc (.cells #[.int .u64 (rk : Int), .int .i64 rg, .int .i64 ro, .int .i64 rn] 27)).alloc (.cells #[.bool lf, .slice A es.length c, .slice Q ks.length q] 87)) := ((Below.refl _ _).alloc (Nat.le_refl _) _).alloc (by simp) _
  have k1 := (Blk.new w 27 #[.int .u64 (rk : Int), .int .i64 rg, .int .i64 ro, .int .i64 rn]).alloc (.cells #[.bool lf, .slice A es.length c, .slice Q ks.length q] 87)
  have k2 := Blk.new (w.alloc (.cells #[.int .u64 (rk : Int), .int .i64 rg, .int .i64 ro, .int .i64 rn] 27)) 87 #[.bool lf, .slice A es.length c, .slice Q ks.length q]
  rw [World.size_alloc] at k2
  have HH := vers.lay h
  have HR := vers.lay hr
  have HY0 := vers.lay hy
  have HF0 := vers.lay hF
  clear h hr hy hF
  go_enter Try.func48, Try.ntmps48
  go_upto_region 2 with (fail)
  generalize hWq : (w.alloc (.cells #[.int .u64 (rk : Int), .int .i64 rg, .int .i64 ro, .int .i64 rn] 27)).alloc (.cells #[.bool lf, .slice A es.length c, .slice Q ks.length q] 87) = W at *
  obtain ⟨q1, hq1e⟩ : ∃ q1, w.heap.size = q1 := ⟨_, rfl⟩
  have HQ := vers.lay hq1e
  rw [hq1e] at k1 k2 ⊢
  have hqs : W.heap.size = q1 + 2 := by rw [← hWq, ← hq1e]; simp
  clear hWq hq1e
  have HQS := vers.lay hqs
  clear hqs
  have H0 := vers.lay (HH.out.below bA)
  have hf := find_ok H0.out ⟨rk, rg, ro, rn⟩
  obtain ⟨b0, b1, b2, b3⟩ : W.cell? ⟨q1, 0, none⟩ = _ ∧ W.cell? ⟨q1, 1, none⟩ = _ ∧ W.cell? ⟨q1, 2, none⟩ = _ ∧ W.cell? ⟨q1, 3, none⟩ = _ := ⟨k1.cell 0, k1.cell 1, k1.cell 2, k1.cell 3⟩
  simp only [List.getElem?_toArray, List.getElem?_cons_zero, List.getElem?_cons_succ] at b0 b1 b2 b3
  have hq1l := k1.lt
  obtain ⟨at_, hat⟩ : ∃ at_, atR (l.map H.ph) ⟨rk, rg, ro, rn⟩ = at_ := ⟨_, rfl⟩
  rw [hat] at hf
  obtain ⟨z, hz⟩ : ∃ z, oi at_ = z := ⟨_, rfl⟩
  rw [hz] at hf
  have HZ := vers.lay hz
  clear hz
  have HAT := vers.lay hat
  have BA := vers.lay bA
  have K1 := vers.lay k1
  have K2 := vers.lay k2
  clear hat bA k1 k2
  go_upto_if 14 with (go_at_call 112; refine hf.mono ?_; rintro e1 w1 ⟨rfl, hb1⟩)
  have H1 := vers.lay (H0.out.below hb1)
  have BA1 := vers.lay (BA.out.trans (hb1.mono BA.out.size))
  have K11 := vers.lay (K1.out.below hb1 K1.out.lt)
  have K21 := vers.lay (K2.out.below hb1 K2.out.lt)
  have HS1 := vers.lay hb1.size
  clear hb1 hf b0 b1 b2 b3 hq1l K1 K2
  generalize hbb : decide (0 ≤ z) = bb
  have HBB := vers.lay hbb
  clear hbb
  go_cut [7] (fun s7 wx => ∃ (pn : Nat) (l1 : List H), s7 = .int .i64 (pn : Int) ∧ l1.length + 1 ≤ room ∧ Hid (Ca wx p g Z room f m l1) ∧ Hid (Keep Z w1 wx) ∧ Hid (putP room (l.map H.ph) ⟨rk, rg, ro, rn⟩ (lf, es.map pe, ks) = (0, l1.map H.ph ++ [(⟨rk, rg, ro, rn⟩, (lf, es.map pe, ks), pn)])))
  case first =>
    have hlen := HH.out.len
    have hcap := HH.out.cap
    cases hat : at_ with
    | some i =>
      have HA := vers.lay (HAT.out.trans hat)
      have hi : i < l.length := by obtain ⟨h, _⟩ := atR_lt HA.out; simpa using h
      obtain rfl : z = (i : Int) := by rw [← HZ.out, hat]; rfl
      obtain rfl : bb = true := by rw [← HBB.out]; exact decide_eq_true (by omega)
      have y7 := (H1.out.at_ hi).2.2.2.2.2.2.2
      obtain ⟨hp1, hg1, x0, _, _, _⟩ := H1.out.head
      have hW := wipe_ok H1.out hi
      have hpn : pinsAt (l.map H.ph) i = l[i].p := by unfold pinsAt; rw [List.getElem?_map, List.getElem?_eq_getElem hi]; rfl
      have HP := vers.lay (show putP room (l.map H.ph) ⟨rk, rg, ro, rn⟩ (lf, es.map pe, ks) = (0, (outL l i).map H.ph ++ [(⟨rk, rg, ro, rn⟩, (lf, es.map pe, ks), l[i].p)]) by unfold putP; rw [HA.out]; dsimp only; rw [hpn, outL_map])
      have HOL := vers.lay (outL_len l hi)
      have HI := vers.lay hi
      generalize l[i].p = pn at *
      have i1 : (0 : Int) ≤ (i : Int) := by omega
      have i2 : (i : Int) < (l.length : Int) := by omega
      obtain ⟨n, hn⟩ : ∃ n, n = l.length := ⟨_, rfl⟩
      rw [← hn] at x0 i2
      have HN := vers.lay (And.intro hn (And.intro hlen hcap))
      clear hpn hi hn hlen hcap hat
      go_wp2_with (go_at_call 119; refine hW.mono ?_; rintro e2 w2 ⟨rfl, h2, k2⟩)
      have hl2 : (outL l i).length + 1 ≤ room := by have := HOL.out; have := HN.out; have := HI.out; omega
      go_meet
      exact ⟨pn, outL l i, rfl, hl2, vers.lay h2, vers.lay k2, HP⟩
    | none =>
      have HA := vers.lay (HAT.out.trans hat)
      obtain rfl : z = -1 := by rw [← HZ.out, hat]; rfl
      obtain rfl : bb = false := by rw [← HBB.out]; rfl
      have hM := makeRoom_ok H1.out
      have HL := vers.lay (And.intro hlen hcap)
      clear hlen hcap hat
      go_upto_region 7 with (go_at_call 121; refine hM.mono ?_; rintro e2 w2 ⟨E, l2, rfl, hE, h2, k2⟩)
      have hm1 : (makeP room (l.map H.ph)).1 = E := by rw [← hE]
      have hm2 : (makeP room (l.map H.ph)).2 = l2.map H.ph := by rw [← hE]
      by_cases hE0 : E = 0
      · subst hE0
        have hl2 : l2.length + 1 ≤ room := by
          have := makeP_len (room := room) (l := l.map H.ph) (by rw [List.length_map]; exact HL.out.1) hm1
          rw [hm2, List.length_map] at this
          exact this
        have HP := vers.lay (show putP room (l.map H.ph) ⟨rk, rg, ro, rn⟩ (lf, es.map pe, ks) = (0, l2.map H.ph ++ [(⟨rk, rg, ro, rn⟩, (lf, es.map pe, ks), 0)]) by unfold putP; rw [HA.out]; dsimp only; rw [if_pos hm1, hm2])
        have H2 := vers.lay h2
        have K2' := vers.lay k2
        clear hm1 hm2 hE h2 k2
        go_wp2_with fail
        go_meet
        exact ⟨0, l2, rfl, hl2, H2, K2', HP⟩
      · have e1 : (E == 0) = false := by simpa using hE0
        have e2 : decide (E = 0) = false := decide_eq_false hE0
        have HP := vers.lay (show (E, l2.map H.ph) = putP room (l.map H.ph) ⟨rk, rg, ro, rn⟩ (lf, es.map pe, ks) by unfold putP; rw [HA.out]; dsimp only; rw [if_neg (by rw [hm1]; exact hE0), ← hE])
        have H2 := vers.lay h2
        have K2' := vers.lay k2
        clear hm1 hm2 hE h2 k2
        go_wp2_with fail
        go_ret
        exact ⟨E, l2, Z, rfl, HP.out, H2.out, Keep.trans (S := Z) (Keep.of_below BA1.out) K2'.out fun _ h _ => h, fun b h => .inl h⟩
  case rest =>
    obtain ⟨pn, l1, rfl, hl1, H2, HK2, HP⟩ := hcut
    generalize wc = W9 at *
    clear wc
    have hK := HK2.out
    have hKs := hK.size
    have hZ1 := H1.out.zlt
    have hqZ : ∀ b, q1 ≤ b → ¬ Z b := fun b hb h => by have := HH.out.zlt b h; have := HQ.out; omega
    have k1 := hK.blk K11.out (hqZ _ (Nat.le_refl _))
    have k2 := hK.blk K21.out (hqZ _ (by omega))
    have hq1 := k1.lt
    have hq2 := k2.lt
    have hgZ : g < q1 := by have := HH.out.zlt g HH.out.zg; have := HQ.out; omega
    have hg1 : q1 ≠ g := by omega
    have hg2 : q1 + 1 ≠ g := by omega
    obtain ⟨hpW, hgW, x0, _, _, _⟩ := H2.out.head
    obtain ⟨b0, b1, b2, b3⟩ : W9.cell? ⟨q1, 0, none⟩ = _ ∧ W9.cell? ⟨q1, 1, none⟩ = _ ∧ W9.cell? ⟨q1, 2, none⟩ = _ ∧ W9.cell? ⟨q1, 3, none⟩ = _ := ⟨k1.cell 0, k1.cell 1, k1.cell 2, k1.cell 3⟩
    obtain ⟨c0, c1, c2⟩ : W9.cell? ⟨q1 + 1, 0, none⟩ = _ ∧ W9.cell? ⟨q1 + 1, 1, none⟩ = _ ∧ W9.cell? ⟨q1 + 1, 2, none⟩ = _ := ⟨k2.cell 0, k2.cell 1, k2.cell 2⟩
    simp only [List.getElem?_toArray, List.getElem?_cons_zero, List.getElem?_cons_succ] at b0 b1 b2 b3 c0 c1 c2
    have hAg0 : Agree w W9 F := fun b hb => (hK.block b (by have := (HF0.out b hb).1; have := BA1.out.size; omega) (HF0.out b hb).2).trans (BA1.out.block b (HF0.out b hb).1)
    have hNs := HY0.out.agree hAg0
    have hAg : ∀ w', Keep (fun b => b = g) W9 w' → Agree W9 w' F := fun w' hk => hk.agree fun b hb => ⟨by have := (HF0.out b hb).1; have := BA1.out.size; omega, fun e => (HF0.out b hb).2 (e ▸ HH.out.zg)⟩
    have HKW := vers.lay (Keep.trans (S := Z) (Keep.of_below BA1.out) hK fun _ h _ => h)
    have HSZ := vers.lay (show w.heap.size ≤ W9.drew.heap.size from by have := BA1.out.size; show w.heap.size ≤ W9.heap.size; omega)
    have HBd := vers.lay ((Below.refl W9.heap.size W9).drew)
    have hS9 : Keep (fun b => b = g) W9 W9.drew := Keep.of_below HBd.out
    obtain ⟨i0, hi0, hz0, hz1, hz2⟩ := info_parts infoH
    clear hZ1 hqZ k1 k2 hgZ hAg0 hK hKs HK2
    have H1 := H2
    clear H2
    go_upto_region 9 with (fail)
    refine mix.region_D (fun w' => Keep (fun b => b = g) W9 w') (fun j => j == 14) (by kernel_rfl) ?_
    generalize W9.drew = Wd at *
    refine mix.D_takeT (i := 0) (v := ?_) rfl (by kernel_rfl) (by kernel_rfl) (fun _ _ _ h => h) (Or.inl ⟨by first | rfl | simp [Region.wanted, yielded], ?_⟩) hS9 ?_
    rotate_left
    · intro w' hSw
      have z0 := (hSw.cell (p := ⟨p, 0, none⟩) hpW (fun e => H1.out.ne e.symm)).trans x0
      have a0 := (hSw.cell (p := ⟨q1, 0, none⟩) hq1 hg1).trans b0
      have a1 := (hSw.cell (p := ⟨q1, 1, none⟩) hq1 hg1).trans b1
      have a2 := (hSw.cell (p := ⟨q1, 2, none⟩) hq1 hg1).trans b2
      have a3 := (hSw.cell (p := ⟨q1, 3, none⟩) hq1 hg1).trans b3
      have n0 := (hSw.cell (p := ⟨q1 + 1, 0, none⟩) hq2 hg2).trans c0
      have n1 := (hSw.cell (p := ⟨q1 + 1, 1, none⟩) hq2 hg2).trans c1
      have n2 := (hSw.cell (p := ⟨q1 + 1, 2, none⟩) hq2 hg2).trans c2
      try simp only [List.getElem_toArray, List.getElem_cons_zero, List.getElem_cons_succ]
      go_simp
      exact rfl
    try simp only [Act.put, List.setIfInBounds_toArray, List.set_cons_zero, List.set_cons_succ, List.getElem_toArray, List.getElem_cons_zero, List.getElem_cons_succ]
    refine mix.D_takeT (i := 1) (v := ?_) rfl (by kernel_rfl) (by kernel_rfl) (fun _ _ _ h => h) (Or.inl ⟨by first | rfl | simp [Region.wanted, yielded], ?_⟩) hS9 ?_
    rotate_left
    · intro w' hSw
      have z0 := (hSw.cell (p := ⟨p, 0, none⟩) hpW (fun e => H1.out.ne e.symm)).trans x0
      have a0 := (hSw.cell (p := ⟨q1, 0, none⟩) hq1 hg1).trans b0
      have a1 := (hSw.cell (p := ⟨q1, 1, none⟩) hq1 hg1).trans b1
      have a2 := (hSw.cell (p := ⟨q1, 2, none⟩) hq1 hg1).trans b2
      have a3 := (hSw.cell (p := ⟨q1, 3, none⟩) hq1 hg1).trans b3
      have n0 := (hSw.cell (p := ⟨q1 + 1, 0, none⟩) hq2 hg2).trans c0
      have n1 := (hSw.cell (p := ⟨q1 + 1, 1, none⟩) hq2 hg2).trans c1
      have n2 := (hSw.cell (p := ⟨q1 + 1, 2, none⟩) hq2 hg2).trans c2
      try simp only [List.getElem_toArray, List.getElem_cons_zero, List.getElem_cons_succ]
      go_simp
      exact rfl
    try simp only [Act.put, List.setIfInBounds_toArray, List.set_cons_zero, List.set_cons_succ, List.getElem_toArray, List.getElem_cons_zero, List.getElem_cons_succ]
    refine mix.D_takeT (i := 2) (v := ?_) rfl (by kernel_rfl) (by kernel_rfl) (fun _ _ _ h => h) (Or.inl ⟨by first | rfl | simp [Region.wanted, yielded], ?_⟩) hS9 ?_
    rotate_left
    · intro w' hSw
      have z0 := (hSw.cell (p := ⟨p, 0, none⟩) hpW (fun e => H1.out.ne e.symm)).trans x0
      have a0 := (hSw.cell (p := ⟨q1, 0, none⟩) hq1 hg1).trans b0
      have a1 := (hSw.cell (p := ⟨q1, 1, none⟩) hq1 hg1).trans b1
      have a2 := (hSw.cell (p := ⟨q1, 2, none⟩) hq1 hg1).trans b2
      have a3 := (hSw.cell (p := ⟨q1, 3, none⟩) hq1 hg1).trans b3
      have n0 := (hSw.cell (p := ⟨q1 + 1, 0, none⟩) hq2 hg2).trans c0
      have n1 := (hSw.cell (p := ⟨q1 + 1, 1, none⟩) hq2 hg2).trans c1
      have n2 := (hSw.cell (p := ⟨q1 + 1, 2, none⟩) hq2 hg2).trans c2
      try simp only [List.getElem_toArray, List.getElem_cons_zero, List.getElem_cons_succ]
      go_simp
      exact rfl
    try simp only [Act.put, List.setIfInBounds_toArray, List.set_cons_zero, List.set_cons_succ, List.getElem_toArray, List.getElem_cons_zero, List.getElem_cons_succ]
    refine mix.D_takeT (i := 3) (v := ?_) rfl (by kernel_rfl) (by kernel_rfl) (fun _ _ _ h => h) (Or.inl ⟨by first | rfl | simp [Region.wanted, yielded], ?_⟩) hS9 ?_
    rotate_left
    · intro w' hSw
      have z0 := (hSw.cell (p := ⟨p, 0, none⟩) hpW (fun e => H1.out.ne e.symm)).trans x0
      have a0 := (hSw.cell (p := ⟨q1, 0, none⟩) hq1 hg1).trans b0
      have a1 := (hSw.cell (p := ⟨q1, 1, none⟩) hq1 hg1).trans b1
      have a2 := (hSw.cell (p := ⟨q1, 2, none⟩) hq1 hg1).trans b2
      have a3 := (hSw.cell (p := ⟨q1, 3, none⟩) hq1 hg1).trans b3
      have n0 := (hSw.cell (p := ⟨q1 + 1, 0, none⟩) hq2 hg2).trans c0
      have n1 := (hSw.cell (p := ⟨q1 + 1, 1, none⟩) hq2 hg2).trans c1
      have n2 := (hSw.cell (p := ⟨q1 + 1, 2, none⟩) hq2 hg2).trans c2
      try simp only [List.getElem_toArray, List.getElem_cons_zero, List.getElem_cons_succ]
      go_simp
      exact rfl
    try simp only [Act.put, List.setIfInBounds_toArray, List.set_cons_zero, List.set_cons_succ, List.getElem_toArray, List.getElem_cons_zero, List.getElem_cons_succ]
    refine mix.D_takeT (i := 4) (v := ?_) rfl (by kernel_rfl) (by kernel_rfl) (fun _ _ _ h => h) (Or.inl ⟨by first | rfl | simp [Region.wanted, yielded], ?_⟩) hS9 ?_
    rotate_left
    · intro w' hSw
      have z0 := (hSw.cell (p := ⟨p, 0, none⟩) hpW (fun e => H1.out.ne e.symm)).trans x0
      have a0 := (hSw.cell (p := ⟨q1, 0, none⟩) hq1 hg1).trans b0
      have a1 := (hSw.cell (p := ⟨q1, 1, none⟩) hq1 hg1).trans b1
      have a2 := (hSw.cell (p := ⟨q1, 2, none⟩) hq1 hg1).trans b2
      have a3 := (hSw.cell (p := ⟨q1, 3, none⟩) hq1 hg1).trans b3
      have n0 := (hSw.cell (p := ⟨q1 + 1, 0, none⟩) hq2 hg2).trans c0
      have n1 := (hSw.cell (p := ⟨q1 + 1, 1, none⟩) hq2 hg2).trans c1
      have n2 := (hSw.cell (p := ⟨q1 + 1, 2, none⟩) hq2 hg2).trans c2
      try simp only [List.getElem_toArray, List.getElem_cons_zero, List.getElem_cons_succ]
      go_simp
      exact rfl
    try simp only [Act.put, List.setIfInBounds_toArray, List.set_cons_zero, List.set_cons_succ, List.getElem_toArray, List.getElem_cons_zero, List.getElem_cons_succ]
    refine mix.D_takeT (i := 5) (v := ?_) rfl (by kernel_rfl) (by kernel_rfl) (fun _ _ _ h => h) (Or.inl ⟨by first | rfl | simp [Region.wanted, yielded], ?_⟩) hS9 ?_
    rotate_left
    · intro w' hSw
      have z0 := (hSw.cell (p := ⟨p, 0, none⟩) hpW (fun e => H1.out.ne e.symm)).trans x0
      have a0 := (hSw.cell (p := ⟨q1, 0, none⟩) hq1 hg1).trans b0
      have a1 := (hSw.cell (p := ⟨q1, 1, none⟩) hq1 hg1).trans b1
      have a2 := (hSw.cell (p := ⟨q1, 2, none⟩) hq1 hg1).trans b2
      have a3 := (hSw.cell (p := ⟨q1, 3, none⟩) hq1 hg1).trans b3
      have n0 := (hSw.cell (p := ⟨q1 + 1, 0, none⟩) hq2 hg2).trans c0
      have n1 := (hSw.cell (p := ⟨q1 + 1, 1, none⟩) hq2 hg2).trans c1
      have n2 := (hSw.cell (p := ⟨q1 + 1, 2, none⟩) hq2 hg2).trans c2
      try simp only [List.getElem_toArray, List.getElem_cons_zero, List.getElem_cons_succ]
      go_simp
      exact rfl
    try simp only [Act.put, List.setIfInBounds_toArray, List.set_cons_zero, List.set_cons_succ, List.getElem_toArray, List.getElem_cons_zero, List.getElem_cons_succ]
    refine mix.D_takeT (i := 6) (v := ?_) rfl (by kernel_rfl) (by kernel_rfl) (fun _ _ _ h => h) (Or.inl ⟨by first | rfl | simp [Region.wanted, yielded], ?_⟩) hS9 ?_
    rotate_left
    · intro w' hSw
      have z0 := (hSw.cell (p := ⟨p, 0, none⟩) hpW (fun e => H1.out.ne e.symm)).trans x0
      have a0 := (hSw.cell (p := ⟨q1, 0, none⟩) hq1 hg1).trans b0
      have a1 := (hSw.cell (p := ⟨q1, 1, none⟩) hq1 hg1).trans b1
      have a2 := (hSw.cell (p := ⟨q1, 2, none⟩) hq1 hg1).trans b2
      have a3 := (hSw.cell (p := ⟨q1, 3, none⟩) hq1 hg1).trans b3
      have n0 := (hSw.cell (p := ⟨q1 + 1, 0, none⟩) hq2 hg2).trans c0
      have n1 := (hSw.cell (p := ⟨q1 + 1, 1, none⟩) hq2 hg2).trans c1
      have n2 := (hSw.cell (p := ⟨q1 + 1, 2, none⟩) hq2 hg2).trans c2
      try simp only [List.getElem_toArray, List.getElem_cons_zero, List.getElem_cons_succ]
      go_simp
      exact rfl
    try simp only [Act.put, List.setIfInBounds_toArray, List.set_cons_zero, List.set_cons_succ, List.getElem_toArray, List.getElem_cons_zero, List.getElem_cons_succ]
    refine mix.D_takeT (i := 8) (v := ?_) rfl (by kernel_rfl) (by kernel_rfl) (fun _ _ _ h => h) (Or.inl ⟨by first | rfl | simp [Region.wanted, yielded], ?_⟩) hS9 ?_
    rotate_left
    · intro w' hSw
      have z0 := (hSw.cell (p := ⟨p, 0, none⟩) hpW (fun e => H1.out.ne e.symm)).trans x0
      have a0 := (hSw.cell (p := ⟨q1, 0, none⟩) hq1 hg1).trans b0
      have a1 := (hSw.cell (p := ⟨q1, 1, none⟩) hq1 hg1).trans b1
      have a2 := (hSw.cell (p := ⟨q1, 2, none⟩) hq1 hg1).trans b2
      have a3 := (hSw.cell (p := ⟨q1, 3, none⟩) hq1 hg1).trans b3
      have n0 := (hSw.cell (p := ⟨q1 + 1, 0, none⟩) hq2 hg2).trans c0
      have n1 := (hSw.cell (p := ⟨q1 + 1, 1, none⟩) hq2 hg2).trans c1
      have n2 := (hSw.cell (p := ⟨q1 + 1, 2, none⟩) hq2 hg2).trans c2
      try simp only [List.getElem_toArray, List.getElem_cons_zero, List.getElem_cons_succ]
      go_simp
      exact rfl
    try simp only [Act.put, List.setIfInBounds_toArray, List.set_cons_zero, List.set_cons_succ, List.getElem_toArray, List.getElem_cons_zero, List.getElem_cons_succ]
    refine mix.D_op (k := 7) rfl rfl (by kernel_rfl) (fun K' hK => ?_)
    simp only [List.getElem_toArray, List.getElem_cons_zero, List.getElem_cons_succ]
    have hEs := (hNs.agree (hAg _ hS9)).1.es
    have hKs := (hNs.agree (hAg _ hS9)).2.ks
    go_wp2_with fail
    refine (copied_any lf es ks A c Q q Wd hEs hKs).mono ?_
    rintro e w9 ⟨y9, rfl, hy9p, hy9, hb9⟩
    have hs9 : Keep (fun b => b = g) W9 w9 := hS9.seq hb9
    have HY := vers.lay hy9
    have HYP := vers.lay hy9p
    have HB9 := vers.lay hb9
    clear hy9 hy9p hb9 hEs hKs
    refine hK.out _ _ (fun _ => hs9) ?_
    clear hK K'
    try simp only [Act.put, List.setIfInBounds_toArray, List.set_cons_zero, List.set_cons_succ]
    refine mix.D_takeT (i := 9) (v := ?_) rfl (by kernel_rfl) (by kernel_rfl) (fun _ _ _ h => h) (Or.inl ⟨by first | rfl | simp [Region.wanted, yielded], ?_⟩) hs9 ?_
    rotate_left
    · intro w' hSw
      have z0 := (hSw.cell (p := ⟨p, 0, none⟩) hpW (fun e => H1.out.ne e.symm)).trans x0
      have a0 := (hSw.cell (p := ⟨q1, 0, none⟩) hq1 hg1).trans b0
      have a1 := (hSw.cell (p := ⟨q1, 1, none⟩) hq1 hg1).trans b1
      have a2 := (hSw.cell (p := ⟨q1, 2, none⟩) hq1 hg1).trans b2
      have a3 := (hSw.cell (p := ⟨q1, 3, none⟩) hq1 hg1).trans b3
      have n0 := (hSw.cell (p := ⟨q1 + 1, 0, none⟩) hq2 hg2).trans c0
      have n1 := (hSw.cell (p := ⟨q1 + 1, 1, none⟩) hq2 hg2).trans c1
      have n2 := (hSw.cell (p := ⟨q1 + 1, 2, none⟩) hq2 hg2).trans c2
      try simp only [List.getElem_toArray, List.getElem_cons_zero, List.getElem_cons_succ]
      go_simp
      exact rfl
    try simp only [Act.put, List.setIfInBounds_toArray, List.set_cons_zero, List.set_cons_succ, List.getElem_toArray, List.getElem_cons_zero, List.getElem_cons_succ]
    refine mix.D_op (k := 10) rfl rfl (by kernel_rfl) (fun K' hK => ?_)
    simp only [List.getElem_toArray, List.getElem_cons_zero, List.getElem_cons_succ]
    go_wp2_with fail
    have hs10 : Keep (fun b => b = g) W9 (w9.alloc (.cells (⟨⟨rk, rg, ro, rn⟩, y9, pn, fun b => Wd.heap.size ≤ b ∧ b < w9.heap.size⟩ : H).cells.toArray 110)) := hs9.seq ((Below.refl _ _).alloc (Nat.le_refl _) _)
    refine hK.out _ _ (fun _ => hs10) ?_
    clear hK K'
    try simp only [Act.put, List.setIfInBounds_toArray, List.set_cons_zero, List.set_cons_succ]
    refine mix.D_op (k := 11) rfl rfl (by kernel_rfl) (fun K' hK => ?_)
    simp only [List.getElem_toArray, List.getElem_cons_zero, List.getElem_cons_succ]
    have hrow9 := (H1.out.below HBd.out).below HB9.out |>.row
    refine wp_put_in Try.underlying98 hi0 hz1 _ _ rfl hrow9 rfl rfl (by intro u hu; simp at hu; rcases hu with rfl | rfl | rfl | rfl | rfl | rfl | rfl | rfl <;> rfl) rfl rfl hl1 ?_
    intro w10 ho10 hk10 hz10
    have hs11 : Keep (fun b => b = g) W9 w10 := hs9.trans hk10 fun _ h _ => h
    refine hK.out _ _ (fun _ => hs11) ?_
    clear hK K'
    try simp only [Act.put, List.setIfInBounds_toArray, List.set_cons_zero, List.set_cons_succ]
    refine mix.D_takeT (i := 12) (v := ?_) rfl (by kernel_rfl) (by kernel_rfl) (fun _ _ _ h => h) (Or.inl ⟨by first | rfl | simp [Region.wanted, yielded], ?_⟩) hs11 ?_
    rotate_left
    · intro w' hSw
      have z0 := (hSw.cell (p := ⟨p, 0, none⟩) hpW (fun e => H1.out.ne e.symm)).trans x0
      have a0 := (hSw.cell (p := ⟨q1, 0, none⟩) hq1 hg1).trans b0
      have a1 := (hSw.cell (p := ⟨q1, 1, none⟩) hq1 hg1).trans b1
      have a2 := (hSw.cell (p := ⟨q1, 2, none⟩) hq1 hg1).trans b2
      have a3 := (hSw.cell (p := ⟨q1, 3, none⟩) hq1 hg1).trans b3
      have n0 := (hSw.cell (p := ⟨q1 + 1, 0, none⟩) hq2 hg2).trans c0
      have n1 := (hSw.cell (p := ⟨q1 + 1, 1, none⟩) hq2 hg2).trans c1
      have n2 := (hSw.cell (p := ⟨q1 + 1, 2, none⟩) hq2 hg2).trans c2
      try simp only [List.getElem_toArray, List.getElem_cons_zero, List.getElem_cons_succ]
      go_simp
      exact rfl
    try simp only [Act.put, List.setIfInBounds_toArray, List.set_cons_zero, List.set_cons_succ, List.getElem_toArray, List.getElem_cons_zero, List.getElem_cons_succ]
    refine mix.D_takeT (i := 13) (v := ?_) rfl (by kernel_rfl) (by kernel_rfl) (fun _ _ _ h => h) (Or.inl ⟨by first | rfl | simp [Region.wanted, yielded], ?_⟩) hs11 ?_
    rotate_left
    · intro w' hSw
      have z0 := (hSw.cell (p := ⟨p, 0, none⟩) hpW (fun e => H1.out.ne e.symm)).trans x0
      have a0 := (hSw.cell (p := ⟨q1, 0, none⟩) hq1 hg1).trans b0
      have a1 := (hSw.cell (p := ⟨q1, 1, none⟩) hq1 hg1).trans b1
      have a2 := (hSw.cell (p := ⟨q1, 2, none⟩) hq1 hg1).trans b2
      have a3 := (hSw.cell (p := ⟨q1, 3, none⟩) hq1 hg1).trans b3
      have n0 := (hSw.cell (p := ⟨q1 + 1, 0, none⟩) hq2 hg2).trans c0
      have n1 := (hSw.cell (p := ⟨q1 + 1, 1, none⟩) hq2 hg2).trans c1
      have n2 := (hSw.cell (p := ⟨q1 + 1, 2, none⟩) hq2 hg2).trans c2
      try simp only [List.getElem_toArray, List.getElem_cons_zero, List.getElem_cons_succ]
      go_simp
      exact rfl
    try simp only [Act.put, List.setIfInBounds_toArray, List.set_cons_zero, List.set_cons_succ, List.getElem_toArray, List.getElem_cons_zero, List.getElem_cons_succ]
    refine mix.D_op (k := 14) rfl rfl (by kernel_rfl) (fun K' hK => ?_)
    simp only [List.getElem_toArray, List.getElem_cons_zero, List.getElem_cons_succ]
    obtain ⟨cg, kz⟩ := Ca.grow (W := w) (H1.out.below HBd.out) HR.out HB9.out HY.out ho10 hk10 (HSZ.out)
    have kpp := hk10.blk ((H1.out.below HBd.out).below HB9.out).blk (fun e => H1.out.ne e.symm)
    have xp := kpp.cell 0
    have fp := kpp.frozen 0
    have lp := kpp.lt
    simp only [List.getElem?_toArray, List.getElem?_cons_zero, List.getElem?_cons_succ] at xp
    have HCG := vers.lay cg
    have HKZ := vers.lay kz
    clear cg kz kpp
    go_wp2_with fail
    refine hK.out _ _ (fun h => by simp at h) ?_
    clear hK K'
    try simp only [Act.put, List.setIfInBounds_toArray, List.set_cons_zero, List.set_cons_succ]
    refine mix.D_done (by kernel_rfl) ?_ _
    try simp only [Act.put, List.setIfInBounds_toArray, List.set_cons_zero, List.set_cons_succ, List.getElem_toArray, List.getElem_cons_zero, List.getElem_cons_succ]
    go_wp2_with fail
    go_ret
    refine ⟨0, _, _, rfl, ?_, HCG.out, Keep.trans (S := Z) HKW.out (Keep.trans (S := Z) (Keep.of_below HBd.out) HKZ.out fun _ h _ => h) fun _ h _ => h, fun b h => h⟩
    rw [List.map_append, List.map_singleton, HP.out]
    simp only [H.ph, HYP.out]
end
end Go.Proofs.Ytoenkkbcpafanaa.caches

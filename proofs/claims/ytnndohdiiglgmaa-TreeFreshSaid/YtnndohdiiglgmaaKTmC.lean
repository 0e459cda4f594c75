/- Does a tree have just these secrets: shows. -/
import Derived.Test.YtnndohdiiglgmaaKTmB
import Derived.Test.YtnndohdiiglgmaaKQuA


namespace Go.Proofs.Ytnndohdiiglgmaa.trees
set_option linter.unusedVariables false
set_option linter.unusedSimpArgs false
open Go.RowKit Go.Proofs.Ytnndohdiiglgmaa.base Go.Proofs.Ytnndohdiiglgmaa.vers Go.Proofs.Ytnndohdiiglgmaa.nodes Go.Proofs.Ytnndohdiiglgmaa.quotas

/-- a tree's secrets are those of a list -/
structure Mp (L : List PE) (l : List TO) : Prop where
  inc : Inc (nm L)
  one : ∀ y ∈ L, ∃ o ∈ l, o.n = y.1 ∧ y.2 = [vOf o.v]
  all : ∀ o ∈ l, (o.n, [vOf o.v]) ∈ L
  len : l.length = L.length
  uni : (l.map (·.n)).Nodup
theorem hasT_mem : ∀ {l : List TO} {o : TO}, (l.map (·.n)).Nodup → o ∈ l → hasT l o.n = (o.v, true)
  | x :: l, o, hn, ho => by
    rw [List.map_cons, List.nodup_cons] at hn
    rcases List.mem_cons.1 ho with rfl | ho
    · exact hasT_take
    · rw [hasT_skip (fun e => hn.1 (by rw [e]; exact List.mem_map_of_mem ho))]
      exact hasT_mem hn.2 ho
theorem hasT_none {l : List TO} {s : ByteArray} (h : ∀ o ∈ l, o.n ≠ s) : hasT l s = (⟨#[]⟩, false) := by
  unfold hasT
  rw [List.find?_eq_none.2 (fun o ho => by simpa using h o ho)]
theorem inc_uni {L : List PE} (hI : Inc (nm L)) {a b : PE} (ha : a ∈ L) (hb : b ∈ L) (h : a.1 = b.1) : a = b := by
  obtain ⟨i, hi, rfl⟩ := List.mem_iff_getElem.1 ha
  obtain ⟨j, hj, rfl⟩ := List.mem_iff_getElem.1 hb
  have hi' : i < (nm L).length := by simpa [nm] using hi
  have hj' : j < (nm L).length := by simpa [nm] using hj
  rcases Nat.lt_trichotomy i j with h1 | h1 | h1
  · have := (List.pairwise_iff_getElem.1 hI) i j hi' hj' h1
    simp only [nm, List.getElem_map] at this
    rw [h, ltS_irrefl] at this
    cases this
  · subst h1; rfl
  · have := (List.pairwise_iff_getElem.1 hI) j i hj' hi' h1
    simp only [nm, List.getElem_map] at this
    rw [h, ltS_irrefl] at this
    cases this
theorem Mp.flag {L : List PE} {l : List TO} (m : Mp L l) {s : ByteArray} {b : Bool} {x : E} (h : (b = true ∧ pe x ∈ L ∧ x.s = s) ∨ (b = false ∧ (∀ y ∈ L, y.1 ≠ s))) : (hasT l s).2 = b := by
  rcases h with ⟨rfl, h1, h2⟩ | ⟨rfl, h1⟩
  · obtain ⟨o, ho, h3, _⟩ := m.one _ h1
    rw [← h2, show x.s = o.n from h3.symm, hasT_mem m.uni ho]
  · rw [hasT_none (fun o ho e => h1 _ (m.all o ho) e)]
theorem Mp.got {L : List PE} {l : List TO} (m : Mp L l) {o : TO} (ho : o ∈ l) {b : Bool} {x : E} (h : (b = true ∧ pe x ∈ L ∧ x.s = o.n) ∨ (b = false ∧ (∀ y ∈ L, y.1 ≠ o.n))) : b = true ∧ x.s = o.n ∧ x.l = [vOf o.v] := by
  rcases h with ⟨rfl, h1, h2⟩ | ⟨rfl, h1⟩
  · have := inc_uni m.inc h1 (m.all o ho) h2
    exact ⟨rfl, h2, congrArg Prod.snd this⟩
  · exact absurd rfl (h1 _ (m.all o ho))
/-- inner pages have no secrets -/
theorem seenP_shape {ns : List P3} : ∀ (h : Nat) (r : R) (d : Nat) (x : P3) (L : List PE), Tree ns h x L → ∀ s ∈ seenP ns h r d x, s.2.2.1 = false → s.2.2.2.1 = []
  | 0, r, d, x, L, t, s, hs, hf => by
    cases (show x = (true, L, []) from t)
    rw [seenP, List.mem_singleton] at hs
    subst hs
    cases hf
  | h + 1, r, d, x, L, ⟨a, b, c, t⟩, s, hs, hf => by
    have e : belowP x = x.2.2 := by unfold belowP; rw [if_neg (by simp [a])]
    rw [seenP, e, List.mem_cons] at hs
    rcases hs with rfl | hs
    · exact b
    · obtain ⟨k, hk, hs⟩ := List.mem_flatMap.1 hs
      obtain ⟨y, L1, h1, h2, h3, h4⟩ := t.mem k hk
      simp only [h1] at hs
      exact seenP_shape h k.r (d + 1) y L1 h2 s hs hf
theorem Shown.all2 {w : World} {h : Nat} {S : Nat → Prop} {ns : List P3} {r : R} {ht : Nat} {L : List PE} (s : Shown w h S ns r ht L) : ∃ ps : List SP, secretsP ps = L ∧ ps.length ≤ 1000000 ∧ (∀ s ∈ ps, s.2.2.1 = false → s.2.2.2.1 = []) ∧ Calls Try.prog 23 #[pv h, r.val] w (APost w ps) := by
  obtain ⟨x, h1, h2, h3, h4⟩ := s.root
  refine ⟨_, secrets_tree ht r 1 x L h2, ?_, seenP_shape ht r 1 x L h2, allT_ok h S ns ht r x L w s.hp s.fits h1 h2 h3 (by have := s.low; omega)⟩
  have h5 := seenP_len ht r 1 x L h2 h3
  have h6 : 5 ^ ht ≤ 5 ^ 4 := Nat.pow_le_pow_right (by omega) s.low
  have : (5 : Nat) ^ 4 = 625 := rfl
  omega
def esN (l : List SN) : List E := l.flatMap fun s => s.2.2.es
theorem secretsN_es {l : List SN} (h : ∀ s ∈ l, s.2.2.lf = false → s.2.2.es = []) : secretsN l = esN l := by
  unfold secretsN esN
  rw [List.flatMap_def, List.flatMap_def]
  congr 1
  refine List.map_congr_left fun s hs => ?_
  split
  · rfl
  · rename_i hf
    exact (h s hs (by simpa using hf)).symm
theorem esN_at {l : List SN} {j : Nat} (hj : j < l.length) {i : Nat} (hi : i < l[j].2.2.es.length) : (esN l)[(esN (l.take j)).length + i]? = some (l[j].2.2.es[i]) := by
  have e : esN l = esN (l.take j) ++ (l[j].2.2.es ++ esN (l.drop (j + 1))) := by
    unfold esN
    conv => lhs; rw [← List.take_append_drop j l, List.drop_eq_getElem_cons hj]
    rw [List.flatMap_append, List.flatMap_cons]
  rw [e, List.getElem?_append_right (by omega), List.getElem?_append_left (by omega), Nat.add_sub_cancel_left, List.getElem?_eq_getElem hi]
theorem esN_next {l : List SN} {j : Nat} (hj : j < l.length) : (esN (l.take (j + 1))).length = (esN (l.take j)).length + l[j].2.2.es.length := by
  unfold esN
  rw [List.take_succ_eq_append_getElem hj, List.flatMap_append, List.length_append]
  simp
/-- the name of the one ahead -/
def lastN (le : List E) (m : Nat) : ByteArray := if m = 0 then ⟨#[]⟩ else (le[m - 1]?.map (·.s)).getD ⟨#[]⟩
theorem lastN_next {le : List E} {m : Nat} {x : E} (h : le[m]? = some x) : lastN le (m + 1) = x.s := by
  unfold lastN
  rw [if_neg (by omega), Nat.add_sub_cancel, h]
  rfl
theorem lastN_lt {le : List E} (hI : Inc (le.map (·.s))) {m : Nat} {x : E} (h : le[m]? = some x) (hm : 0 < m) : ltS (lastN le m) x.s = true := by
  obtain ⟨hl, hx⟩ := List.getElem?_eq_some_iff.1 h
  unfold lastN
  rw [if_neg (by omega), List.getElem?_eq_getElem (show m - 1 < le.length by omega)]
  have := (List.pairwise_iff_getElem.1 hI) (m - 1) m (by rw [List.length_map]; omega) (by rw [List.length_map]; exact hl) (by omega)
  simp only [List.getElem_map] at this
  rw [← hx]
  exact this
theorem vs_one {w : World} {B : Nat} {v : ByteArray} {A : Option Addr} {c : Nat} (h : Vs w B [vOf v] A c) : ∃ b off, A = some ⟨b, off, none⟩ ∧ b < B ∧ w.cell? ⟨b, off + 1, none⟩ = some (.string v) := by
  obtain ⟨b, off, rfl, hb, _, h1, _⟩ := h.at_ (j := 0) (by simp)
  exact ⟨b, off, rfl, hb, by simpa [vOf] using h1⟩

set_option maxRecDepth 100000 in
set_option maxHeartbeats 8000000 in
theorem shows_ok (h : Nat) (S : Nat → Prop) (ns : List P3) (r : R) (ht : Nat) (L : List PE) (l : List TO) (A : Option Addr) (c : Nat) (w : World) (hS : Shown w h S ns r ht L) (hT : Tos w w.heap.size l A c) (hM : Mp L l) :
    Calls Try.prog 20 #[.pointer (some ⟨h, 0, none⟩), r.val, .slice A l.length c] w fun e w' => e = .returned (.bool true) ∧ Below w.heap.size w w' := by
  have hLl := hS.len
  have hll : l.length ≤ 50 := by rw [hM.len]; exact hLl
  have HS := vers.lay hS
  have HT := vers.lay hT
  have HM := vers.lay hM
  have hcG := fun (W : World) (hb : Below w.heap.size w W) (s : ByteArray) => get_ok h S ns r ht L s W (hS.below hb) hM.inc
  have HG := vers.lay hcG
  have bR : Below w.heap.size w (w.alloc (.cells #[.int .u64 (r.k : Int), .int .i64 r.g, .int .i64 r.o, .int .i64 r.n] 27)) := (Below.refl _ _).alloc (Nat.le_refl _) _
  obtain ⟨ps, hps, hpl, hshape, hall⟩ := (hS.below bR).all2
  clear hS hT hcG hM
  obtain ⟨rk, rg, ro, rn⟩ := r
  have kR := Blk.new w 27 #[.int .u64 (rk : Int), .int .i64 rg, .int .i64 ro, .int .i64 rn]
  generalize hWR : w.alloc (.cells #[.int .u64 (rk : Int), .int .i64 rg, .int .i64 ro, .int .i64 rn] 27) = WR at *
  have z0 := kR.cell 0
  have z1 := kR.cell 1
  have z2 := kR.cell 2
  have z3 := kR.cell 3
  simp only [List.getElem?_toArray, List.getElem?_cons_zero, List.getElem?_cons_succ] at z0 z1 z2 z3
  have lR := kR.lt
  go_enter Try.func20, Try.ntmps20
  go_wp2_with fail
  refine hall.mono ?_
  rintro e w1 ⟨hb1, sl, v, rfl, hsl, hSn⟩
  clear hall z0 z1 z2 z3
  have hsh : ∀ s ∈ sl, s.2.2.lf = false → s.2.2.es = [] := fun s hs hf => by
    have h1 := hshape (psn s) (by rw [← hsl]; exact List.mem_map_of_mem hs) hf
    exact List.map_eq_nil_iff.1 h1
  have hle : (esN sl).map pe = L := by rw [← secretsN_es hsh, secretsN_p, hsl, hps]
  have hsll : sl.length ≤ 1000000 := by rw [← List.length_map (f := psn), hsl]; exact hpl
  have kR1 := kR.below hb1 kR.lt
  have b01 := bR.trans (hb1.mono bR.size)
  have HSH := vers.lay hsh
  have HLE := vers.lay hle
  have hlel : (esN sl).length = l.length := by rw [← List.length_map (f := pe), hle, HM.out.len]
  have hinc : Inc ((esN sl).map (·.s)) := by have := HM.out.inc; rw [← hle] at this; unfold nm at this; rwa [pe_map] at this
  have HINC := vers.lay hinc
  clear hsl hps hpl hshape hsh hle hinc
  obtain ⟨Av, cv, rfl, _, _, _⟩ := row_rdF hSn.1
  have HSN := vers.lay hSn
  have HLEL := vers.lay hlel
  clear hSn hlel
  go_wp2_with fail
  go_loopw [38, 10, 9] (fun i m la wr => ∃ j : Nat, j ≤ sl.length ∧ i = .int .i64 (j : Int) ∧ m = .int .i64 ((esN (sl.take j)).length : Int) ∧ la = .string (lastN (esN sl) (esN (sl.take j)).length) ∧ Below w1.heap.size w1 wr) (fun i _ _ _ => sl.length - (intOf i).toNat)
  case atStart => exact ⟨0, Nat.zero_le _, rfl, rfl, rfl, Below.refl _ _⟩
  case round =>
    obtain ⟨j, hj, rfl, rfl, rfl, hb⟩ := hrel
    by_cases hlt : j < sl.length
    · have hSr := HSN.out.agree (w' := wr) fun g hg => hb.block g hg.2
      obtain ⟨bk, off, rfl, hbk, e0, e1, e2, e3, e4, e5, e6, e7⟩ := hSr.at_ (fun g hg => Nat.lt_of_lt_of_le hg.2 hb.size) rfl hlt
      have hN := (hSr.2.2 _ (List.getElem_mem hlt)).ns.1.es
      have hat := fun i (hi : i < sl[j].2.2.es.length) => esN_at hlt hi
      have hnx := esN_next hlt
      have hlf := HSH.out _ (List.getElem_mem hlt)
      have hmb : (esN (sl.take j)).length ≤ 50 := by
        have := hnx
        have h2 : (esN (sl.take (j + 1))).length ≤ (esN sl).length := by
          unfold esN
          exact flat_len (fun s : SN => s.2.2.es) sl (j + 1)
        have := HLEL.out
        omega
      have hel : sl[j].2.2.es.length ≤ 50 := by
        have h2 : (esN (sl.take (j + 1))).length ≤ (esN sl).length := by
          unfold esN
          exact flat_len (fun s : SN => s.2.2.es) sl (j + 1)
        have := HLEL.out
        omega
      clear hSr
      obtain ⟨m, hm⟩ : ∃ m, m = (esN (sl.take j)).length := ⟨_, rfl⟩
      rw [← hm] at hat hnx hmb
      simp only [← hm]
      have HMN := vers.lay hnx
      clear hm hnx
      generalize sl[j] = sx at *
      obtain ⟨sd, ⟨sk, sg, so, sn⟩, ⟨slf, es, ks, sA, sc, sQ, sm⟩⟩ := sx
      simp only [] at e0 e1 e2 e3 e4 e5 e6 e7 hN hat hlf hel HMN
      have HLF := vers.lay hlf
      have HAT := vers.lay hat
      clear hlf hat
      have b4 : Below wr.heap.size wr (wr.alloc (.cells #[.int .i64 (sd : Int), .int .u64 (sk : Int), .int .i64 sg, .int .i64 so, .int .i64 sn, .bool slf, .slice sA es.length sc, .slice sQ ks.length sm] 62)) := (Below.refl _ _).alloc (Nat.le_refl _) _
      have kB := Blk.new wr 62 #[.int .i64 (sd : Int), .int .u64 (sk : Int), .int .i64 sg, .int .i64 so, .int .i64 sn, .bool slf, .slice sA es.length sc, .slice sQ ks.length sm]
      have hbs := hb.size
      have hb4 := hb.trans (b4.mono hbs)
      have hN4 := hN.at_world b4
      have bs4 : wr.heap.size < (wr.alloc (.cells #[.int .i64 (sd : Int), .int .u64 (sk : Int), .int .i64 sg, .int .i64 so, .int .i64 sn, .bool slf, .slice sA es.length sc, .slice sQ ks.length sm] 62)).heap.size := by simp
      generalize hWB : wr.alloc (.cells #[.int .i64 (sd : Int), .int .u64 (sk : Int), .int .i64 sg, .int .i64 so, .int .i64 sn, .bool slf, .slice sA es.length sc, .slice sQ ks.length sm] 62) = WB at *
      have c5 := kB.cell 5
      have c6 := kB.cell 6
      simp only [List.getElem?_toArray, List.getElem?_cons_zero, List.getElem?_cons_succ] at c5 c6
      have lB := kB.lt
      go_wp2_with fail
      clear e0 e1 e2 e3 e4 e5 e6 e7 hN b4 hWB c5 c6
      generalize wr.heap.size = bx at *
      go_loopw [46, 9] (fun i la wi => ∃ k : Nat, k ≤ es.length ∧ i = .int .i64 (k : Int) ∧ la = .string (lastN (esN sl) (m + k)) ∧ Below WB.heap.size WB wi) (fun i _ _ => es.length - (intOf i).toNat)
      case atStart => exact ⟨0, Nat.zero_le _, rfl, rfl, Below.refl _ _⟩
      case round =>
        obtain ⟨k, hk, rfl, rfl, hbi⟩ := hrel
        have kBi := kB.below hbi lB
        have c5 := kBi.cell 5
        have c6 := kBi.cell 6
        simp only [List.getElem?_toArray, List.getElem?_cons_zero, List.getElem?_cons_succ] at c5 c6
        have lBi := kBi.lt
        by_cases hkl : k < es.length
        · obtain rfl : slf = true := by
            cases hs : slf with
            | true => rfl
            | false => have := HLF.out hs; rw [this] at hkl; simp at hkl
          obtain ⟨b5, o5, rfl, hb5, y0, y1, hV⟩ := (hN4.below hbi).at_ hkl
          have hxa := HAT.out k hkl
          have hxL : pe es[k] ∈ L := by
            rw [← HLE.out]
            exact List.mem_map_of_mem (List.mem_of_getElem? hxa)
          have hnext := lastN_next hxa
          have hltl := lastN_lt HINC.out hxa
          generalize es[k] = x at y0 y1 hV hxL hnext hltl hxa
          obtain ⟨xs, xl, xA, xc⟩ := x
          obtain ⟨o, ho, hon, hov⟩ := HM.out.one _ hxL
          simp only [] at y0 y1 hV hnext hltl hon hov
          subst hov hon
          simp only [List.length_singleton] at y1
          obtain ⟨bv, ov, rfl, hbv, v1⟩ := vs_one hV
          have bE : Below wr.heap.size wr (wr.alloc (.cells #[.string o.n, .slice (some ⟨bv, ov, none⟩) 1 xc] 47)) := (Below.refl _ _).alloc (Nat.le_refl _) _
          have kE := Blk.new wr 47 #[.string o.n, .slice (some ⟨bv, ov, none⟩) 1 xc]
          have hsi := hbi.size
          have hbvw : bv < wr.heap.size := by omega
          have v1E := (bE.cell (p := ⟨bv, ov + 1, none⟩) hbvw).trans v1
          have kBE := kBi.below bE kBi.lt
          have hbE := hbi.trans (bE.mono hsi)
          have hwE : Below w.heap.size w (wr.alloc (.cells #[.string o.n, .slice (some ⟨bv, ov, none⟩) 1 xc] 47)) := b01.trans ((hb4.mono b01.size).trans (hbE.mono (by have := b01.size; have := hb4.size; omega)))
          have hcall := has_any l A c o.n _ (HT.out.at_world hwE)
          rw [hasT_mem HM.out.uni ho] at hcall
          simp only [] at hcall
          have lEE : wr.heap.size < (wr.alloc (.cells #[.string o.n, .slice (some ⟨bv, ov, none⟩) 1 xc] 47)).heap.size := by simp
          generalize hWE : wr.alloc (.cells #[.string o.n, .slice (some ⟨bv, ov, none⟩) 1 xc] 47) = WE at *
          have q0 := kE.cell 0
          have q1 := kE.cell 1
          simp only [List.getElem?_toArray, List.getElem?_cons_zero, List.getElem?_cons_succ] at q0 q1
          have lE := kE.lt
          have HNX := vers.lay (show lastN (esN sl) (m + (k + 1)) = o.n by rw [← Nat.add_assoc]; exact hnext)
          have HLT := vers.lay (show 0 < m + k → ltS (lastN (esN sl) (m + k)) o.n = true from hltl)
          clear hnext hltl hxL hxa hV
          go_wp2_with fail
          refine hcall.mono ?_
          rintro e w5 ⟨rfl, hb5w⟩
          clear hcall q0 q1 c5 c6
          have kE5 := kE.below hb5w kE.lt
          have kB5 := kBE.below hb5w kBE.lt
          have v15 := (hb5w.cell (p := ⟨bv, ov + 1, none⟩) (by show bv < _; omega)).trans v1E
          have q0 := kE5.cell 0
          have q1 := kE5.cell 1
          have c5 := kB5.cell 5
          have c6 := kB5.cell 6
          simp only [List.getElem?_toArray, List.getElem?_cons_zero, List.getElem?_cons_succ] at q0 q1 c5 c6
          have lE5 := kE5.lt
          have lB5 := kB5.lt
          have hbF := hbE.trans (hb5w.mono hbE.size)
          by_cases hz : m + k = 0
          · have dz : decide ((0 : Int) < (m : Int) + (k : Int)) = false := decide_eq_false (by omega)
            clear hz HLT
            go_wp2_with fail
            exact ⟨⟨k + 1, hkl, by go_num, by rw [HNX.out], hbF⟩, by first | (simp [intOf]; done) | (simp [intOf]; omega) | omega⟩
          · obtain ⟨g1, g2, g3, g4⟩ := clt (HLT.out (by omega))
            have dz : decide ((0 : Int) < (m : Int) + (k : Int)) = true := decide_eq_true (by omega)
            clear HLT
            obtain ⟨ln, hln⟩ : ∃ ln, ln = lastN (esN sl) (m + k) := ⟨_, rfl⟩
            simp only [← hln] at *
            clear hln
            go_wp2_with fail
            exact ⟨⟨k + 1, hkl, by go_num, by rw [HNX.out], hbF⟩, by first | (simp [intOf]; done) | (simp [intOf]; omega) | omega⟩
        · obtain rfl : k = es.length := by omega
          go_wp2_with fail
          refine ⟨⟨j + 1, hlt, by go_num, ?_, ?_, hb4.trans (hbi.mono hb4.size)⟩, by first | (simp [intOf]; done) | (simp [intOf]; omega) | omega⟩
          · rw [HMN.out]; go_num
          · rw [HMN.out]
    · obtain rfl : j = sl.length := by omega
      rw [List.take_length]
      have hbw := b01.trans (hb.mono b01.size)
      have kR2 := kR1.below hb kR1.lt
      clear kR1 kR
      have HLN := vers.lay (show ((esN sl).length : Int) = (l.length : Int) by rw [HLEL.out])
      go_wp2_with fail
      go_loopw [105] (fun i wi => ∃ k : Nat, k ≤ l.length ∧ i = .int .i64 (k : Int) ∧ Below wr.heap.size wr wi) (fun i _ => l.length - (intOf i).toNat)
      case atStart => exact ⟨0, Nat.zero_le _, rfl, Below.refl _ _⟩
      case round =>
        obtain ⟨k, hk, rfl, hbi⟩ := hrel
        have hbwi := hbw.trans (hbi.mono hbw.size)
        have kRi := kR2.below hbi kR2.lt
        by_cases hkl : k < l.length
        · obtain ⟨bt, ot, rfl, hbt, x0, x1, x2, x3, x4⟩ := (HT.out.below hbwi).at_ hkl
          have ho := List.getElem_mem hkl
          have hlm := fun (bb : Bool) (y : E) hy => HM.out.got ho (b := bb) (x := y) hy
          generalize l[k] = x at x0 x1 x2 x3 x4 hlm ho
          obtain ⟨xk, xn, xv, xA, xm, xc, xb⟩ := x
          simp only [] at x0 x1 x2 x3 x4 hlm
          have bX : Below wr.heap.size wr (wr.alloc (.cells #[.int .i64 xk, .string xn, .string xv, .slice xA xm xc, .int .i64 xb] 36)) := (Below.refl _ _).alloc (Nat.le_refl _) _
          have kX := Blk.new wr 36 #[.int .i64 xk, .string xn, .string xv, .slice xA xm xc, .int .i64 xb]
          have hbX := hbwi.trans (bX.mono hbwi.size)
          have hbXi := hbi.trans (bX.mono hbi.size)
          have kRX := kRi.below bX kRi.lt
          have hcall := HG.out _ hbX xn
          have szi := hbi.size
          generalize hWX : wr.alloc (.cells #[.int .i64 xk, .string xn, .string xv, .slice xA xm xc, .int .i64 xb] 36) = WX at *
          have q0 := kX.cell 0
          have q1 := kX.cell 1
          have q2 := kX.cell 2
          have q3 := kX.cell 3
          have q4 := kX.cell 4
          have z0 := kRX.cell 0
          have z1 := kRX.cell 1
          have z2 := kRX.cell 2
          have z3 := kRX.cell 3
          simp only [List.getElem?_toArray, List.getElem?_cons_zero, List.getElem?_cons_succ] at q0 q1 q2 q3 q4 z0 z1 z2 z3
          have lX := kX.lt
          have lRX := kRX.lt
          go_wp2_with fail
          refine hcall.mono ?_
          rintro e w5 ⟨hb5, y, bb, rfl, hy, hO, hys⟩
          obtain ⟨rfl, hyn, hyl⟩ := hlm _ _ hy
          clear hy hlm hcall q0 q1 q2 q3 q4 z0 z1 z2 z3 x0 x1 x2 x3 x4
          obtain ⟨ys, yl, yA, yc⟩ := y
          simp only [] at hyn hyl hys
          subst hyn hyl
          have hVs := hO.vs
          obtain ⟨A9, c9, e9, _⟩ := row_rdF hO.1
          simp only [List.length_singleton] at hVs ⊢
          obtain ⟨bv, ov, rfl, hbv, v1⟩ := vs_one hVs.vs
          have kX5 := kX.below hb5 kX.lt
          have kR5 := kRX.below hb5 kRX.lt
          have bE : Below w5.heap.size w5 (w5.alloc (.cells #[.string ys, .slice (some ⟨bv, ov, none⟩) 1 yc] 47)) := (Below.refl _ _).alloc (Nat.le_refl _) _
          have kE := Blk.new w5 47 #[.string ys, .slice (some ⟨bv, ov, none⟩) 1 yc]
          have v1E := (bE.cell (p := ⟨bv, ov + 1, none⟩) hbv).trans v1
          have kXE := kX5.below bE kX5.lt
          have hbF := hbXi.trans ((hb5.trans (bE.mono hb5.size)).mono hbXi.size)
          have hs5 := hb5.size
          have lvE : bv < (w5.alloc (.cells #[.string ys, .slice (some ⟨bv, ov, none⟩) 1 yc] 47)).heap.size := by rw [World.size_alloc]; omega
          clear hO hVs e9 v1
          generalize hWE : w5.alloc (.cells #[.string ys, .slice (some ⟨bv, ov, none⟩) 1 yc] 47) = WE at *
          have q0 := kE.cell 0
          have q1 := kE.cell 1
          have q3 := kXE.cell 1
          have q4 := kXE.cell 2
          simp only [List.getElem?_toArray, List.getElem?_cons_zero, List.getElem?_cons_succ] at q0 q1 q3 q4
          have lE := kE.lt
          have lXE := kXE.lt
          go_wp2_with fail
          obtain ⟨N, hN, hM⟩ := norms (fun wx => Below WE.heap.size WE wx) WE (Below.refl _ _)
          have hne : Nonempty World := ⟨WE⟩
          have n0 := fun n => (kE.below (hN n) lE).cell 0
          have n1 := fun n => (kE.below (hN n) lE).cell 1
          have n3 := fun n => (kXE.below (hN n) lXE).cell 1
          have n4 := fun n => (kXE.below (hN n) lXE).cell 2
          have n5 := fun n => ((hN n).cell (p := ⟨bv, ov + 1, none⟩) lvE).trans v1E
          simp only [List.getElem?_toArray, List.getElem?_cons_zero, List.getElem?_cons_succ] at n0 n1 n3 n4
          clear q0 q1 q3 q4
          refine region_class N (by kernel_rfl) (by kernel_rfl) (hM _ (Below.refl _ WE).drew) ?_
          repeat (go_big_quiet_step (fail))
          refine wpQuiet_nil ?_
          rintro _ ⟨n, rfl⟩
          have I9 := hN n
          generalize N n = w9 at I9 ⊢
          clear n0 n1 n3 n4 n5 hM hN N n hne
          go_wp2_with fail
          have hbG := hbF.trans (I9.mono hbF.size)
          exact ⟨⟨k + 1, hkl, by go_num, hbG⟩, by first | (simp [intOf]; done) | (simp [intOf]; omega) | omega⟩
        · obtain rfl : k = l.length := by omega
          have z0 := kRi.cell 0
          have z1 := kRi.cell 1
          have z2 := kRi.cell 2
          have z3 := kRi.cell 3
          simp only [List.getElem?_toArray, List.getElem?_cons_zero, List.getElem?_cons_succ] at z0 z1 z2 z3
          have lRi := kRi.lt
          have hcall := HG.out _ hbwi ⟨#[110, 111, 32, 115, 117, 99, 104, 32, 110, 97, 109, 101]⟩
          go_wp2_with fail
          refine hcall.mono ?_
          rintro e w5 ⟨hb5, y, bb, rfl, hy, hO, hys⟩
          have hflag := HM.out.flag hy
          clear hy hcall hO hys z0 z1 z2 z3
          obtain ⟨ys, yl, yA, yc⟩ := y
          have bE : Below w5.heap.size w5 (w5.alloc (.cells #[.string ys, .slice yA yl.length yc] 47)) := (Below.refl _ _).alloc (Nat.le_refl _) _
          have hbE := hbwi.trans ((hb5.trans (bE.mono hb5.size)).mono hbwi.size)
          have hcall := has_any l A c ⟨#[110, 111, 32, 115, 117, 99, 104, 32, 110, 97, 109, 101]⟩ _ (HT.out.at_world hbE)
          rw [hflag] at hcall
          clear hflag
          generalize (hasT l ⟨#[110, 111, 32, 115, 117, 99, 104, 32, 110, 97, 109, 101]⟩).1 = hv9 at hcall
          generalize hWE : w5.alloc (.cells #[.string ys, .slice yA yl.length yc] 47) = WE at *
          go_wp2_with fail
          refine hcall.mono ?_
          rintro e w6 ⟨rfl, hb6⟩
          clear hcall
          rw [HLN.out]
          go_wp2_with fail
          go_ret
          exact ⟨by simp, hbE.trans (hb6.mono hbE.size)⟩

end Go.Proofs.Ytnndohdiiglgmaa.trees

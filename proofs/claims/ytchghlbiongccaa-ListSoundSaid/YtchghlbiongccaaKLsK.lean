/- The laws ListNames. -/
import Derived.Test.YtchghlbiongccaaKLsI


namespace Go.Proofs.Ytchghlbiongccaa.trees
set_option linter.unusedVariables false
set_option linter.unusedSimpArgs false
open Go.RowKit Go.Shelf Go.Proofs.Ytchghlbiongccaa.base Go.Proofs.Ytchghlbiongccaa.quotas Go.Proofs.Ytchghlbiongccaa.vers Go.Proofs.Ytchghlbiongccaa.nodes
theorem below_drewN (B : Nat) (w : World) (n : Nat) : Below B w (w.drewN n) := ⟨rfl, rfl, rfl, Nat.le_refl _, fun _ _ => rfl⟩

set_option maxRecDepth 100000 in
set_option maxHeartbeats 8000000 in
theorem sameTexts_ok (l : List ByteArray) (A A' : Option Addr) (c c' : Nat) (w : World) (hT : Ts w w.heap.size l A c) (hT' : Ts w w.heap.size l A' c') :
    Calls Try.prog 29 #[.slice A l.length c, .slice A' l.length c'] w fun e w' => e = .returned (.bool true) ∧ Below w.heap.size w w' := by
  have hlen : l.length ≤ 140737488355328 := by have := hT.2.1; omega
  go_enter Try.func29, Try.ntmps29
  go_wp2_with fail
  go_loopw [13] (fun i wr => ∃ j n : Nat, j ≤ l.length ∧ i = .int .i64 j ∧ wr = w.drewN n) (fun i _ => l.length - (intOf i).toNat)
  case atStart => exact ⟨0, 0, Nat.zero_le _, rfl, rfl⟩
  case round =>
    obtain ⟨j, n, hj, rfl, rfl⟩ := hrel
    by_cases hlt : j < l.length
    · obtain ⟨g, off, rfl, hg, hcell⟩ := hT.at_ hlt
      obtain ⟨g', off', rfl, hg', hcell'⟩ := hT'.at_ hlt
      generalize l[j] = t at hcell hcell'
      go_wp2_with fail
      go_region
      go_wp2_with fail
      exact ⟨⟨j + 1, n + 1, hlt, by go_num, rfl⟩, by simp [intOf]; omega⟩
    · go_wp2_with fail
      go_ret
      exact ⟨rfl, below_drewN _ _ n⟩

theorem names_of (le : List E) (f : ByteArray → Bool) : (((le.map pe).filter fun y => f y.1).map (·.1)) = (le.filter fun x => f x.s).map (·.s) := by
  rw [← filtE_pe, pe_map]

set_option maxRecDepth 100000 in
set_option maxHeartbeats 8000000 in
theorem law_listNames (l : List E) (A : Option Addr) (c : Nat) (ps : List ByteArray) (A2 : Option Addr) (c2 : Nat) (w : World) (hE : Es w w.heap.size l A c) (hT : Ts w w.heap.size ps A2 c2) :
    Calls Try.prog 5 #[.slice A l.length c, .slice A2 ps.length c2] w fun e w' => e = .returned (.bool true) ∧ Below w.heap.size w w' := by
  have hg := grown_ok l A c w hE
  obtain ⟨le, hle⟩ : ∃ le, le = growE l (min l.length 50) := ⟨_, rfl⟩
  rw [← hle] at hg
  have HE := vers.lay hE
  clear hle hE
  go_enter Try.func5, Try.ntmps5
  go_wp2_with fail
  refine hg.mono ?_
  rintro e w1 ⟨h, S, ns, r, ht, v, rfl, hb1, hh, hlo, hroot, hht, hfit, hrow, hown, hlen, hinc, hmem⟩
  clear hg
  have hSh1 : Shown w1 h S ns r ht (le.map pe) := ⟨hh, hroot, hht, hfit, by rw [List.length_map]; exact hlen⟩
  obtain ⟨Av, cv, rfl, hv1, hv2, hv3⟩ := row_rdF hrow
  have hle1 : Es w1 w1.heap.size le Av cv := ⟨hv1, by omega, hv2, hv3.rd, fun x hx => ⟨((HE.out.2.2.2.2 x (hmem x hx)).1.below hb1).more hb1.size, (HE.out.2.2.2.2 x (hmem x hx)).2⟩⟩
  clear hh hlo hroot hht hfit hrow hown hmem hv1 hv2 hv3
  obtain ⟨rk, rg, ro, rn⟩ := r
  have b2 : Below w1.heap.size w1 (w1.alloc (.cells #[.int .u64 (rk : Int), .int .i64 rg, .int .i64 ro, .int .i64 rn] 44)) := (Below.refl _ _).alloc (Nat.le_refl _) _
  have kR := Blk.new w1 44 #[.int .u64 (rk : Int), .int .i64 rg, .int .i64 ro, .int .i64 rn]
  have hSh := hSh1.below b2
  have hle2 := hle1.at_world b2
  have hb2 := hb1.trans (b2.mono hb1.size)
  have lR : w1.heap.size < (w1.alloc (.cells #[.int .u64 (rk : Int), .int .i64 rg, .int .i64 ro, .int .i64 rn] 44)).heap.size := kR.lt
  generalize hW2 : w1.alloc (.cells #[.int .u64 (rk : Int), .int .i64 rg, .int .i64 ro, .int .i64 rn] 44) = w2 at *
  have z0 := kR.cell 0
  have z1 := kR.cell 1
  have z2 := kR.cell 2
  have z3 := kR.cell 3
  simp only [List.getElem?_toArray, List.getElem?_cons_zero, List.getElem?_cons_succ] at z0 z1 z2 z3
  clear hSh1 hle1 hb1 b2
  have hn := listNames_ok h S ns ⟨rk, rg, ro, rn⟩ ht (le.map pe) ps A2 c2 w2 hSh (hT.at_world hb2)
  rw [names_of] at hn
  have HT := vers.lay hT
  clear hT
  go_wp2_with fail
  refine hn.mono ?_
  rintro e w3 ⟨u, rfl, hb3, hto⟩
  have hle3 := hle2.at_world hb3
  have hb03 := hb2.trans (hb3.mono hb2.size)
  have hr := refNames_ok le Av cv ps A2 c2 w3 hle3 (HT.out.at_world hb03) (by omega)
  have hml : ((le.filter fun x => fitP ps x.s).map (·.s)).length ≤ 50 := by rw [List.length_map]; exact Nat.le_trans (List.length_filter_le _ _) hlen
  generalize (le.filter fun x => fitP ps x.s).map (·.s) = M at *
  obtain ⟨Au, cu, rfl, htu⟩ := hto.ts (by omega)
  clear hn hto z0 z1 z2 z3 kR
  go_wp2_with fail
  refine hr.mono ?_
  rintro e w4 ⟨v, rfl, hb4, htv⟩
  have htu4 := htu.at_world hb4
  obtain ⟨Aw, cw, rfl, htw⟩ := htv.ts (by omega)
  have hs := sameTexts_ok M Au Aw cu cw w4 htu4 htw
  have hb04 := hb03.trans (hb4.mono hb03.size)
  clear hr htv hml
  go_wp2_with fail
  refine hs.mono ?_
  rintro e w5 ⟨rfl, hb5⟩
  go_wp2_with fail
  go_ret
  exact ⟨rfl, hb04.trans (hb5.mono hb04.size)⟩

end Go.Proofs.Ytchghlbiongccaa.trees

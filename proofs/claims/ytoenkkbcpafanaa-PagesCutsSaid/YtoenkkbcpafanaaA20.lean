/- Laws for rows of a call's own: append of a whole list, append of zeros, copy into a row; overlaps. -/
import Derived.Test.YtoenkkbcpafanaaA08
import Derived.Laws.AppendOwn
import Derived.Laws.CopyOwn
import Derived.Laws.IdiomCopy
import Derived.Laws.OwnMore
import Derived.Maps.AppendAt
import Derived.Lib.Overlaps
import Derived.Laws.BitsLemmas
import Derived.Test.YtoenkkbcpafanaaA19
import Derived.Deep.Cut
import Derived.Deep.DeepCutAuto


namespace Go.Proofs.Ytoenkkbcpafanaa.trees
set_option linter.unusedVariables false
set_option linter.unusedSimpArgs false
open Go.RowKit Go.Proofs.Ytoenkkbcpafanaa.base Go.Proofs.Ytoenkkbcpafanaa.vers Go.Proofs.Ytoenkkbcpafanaa.nodes

section
variable {P : Program}
/-- append of a whole list to a row of the call's own -/
theorem run_bulk {e tS ty : TypeId} {i0 : TypeInfo} {z : Value} {size bytes : Nat} (hun : P.underlying tS = some (.slice e)) (hi0 : P.info? e = some i0) (hz0 : i0.zero = some z) (hz1 : i0.size = size) (hz2 : i0.bytes = bytes) (hzs : z.cells.size = size) (hsz : 0 < size)
    {w : World} {v : Value} {n : Nat} {xs : List Value} (hown : w.ownsRow 0 e size v n xs) {B : Nat} {A : Option Addr} {m c : Nat} {ys : List Value} (hy : ys.length = m * size) (hr : Rd w B A ys) (hA : A = none → c = 0) (hmc : m ≤ c) (h1 : ∀ u ∈ ys, u.oneCell' = true)
    (hlen : (n + m) * bytes ≤ 140737488355328) (hmax : n + m ≤ maxLen) :
    ∃ v' w', (Builtin.append_ #[tS, tS] ty #[v, .slice A m c]).run P w = .ok v' w' ∧ w'.ownsRow 0 e size v' (n + m) (xs ++ ys) ∧ Keep (fun g => v.ownBlock = some g) w w' ∧ (∀ g, v'.ownBlock = some g → v.ownBlock = some g ∨ (w.heap.size ≤ g ∧ g < w'.heap.size)) := by
  cases A with
  | none =>
    obtain rfl := hA rfl
    obtain rfl : m = 0 := by omega
    obtain rfl : ys = [] := List.eq_nil_of_length_eq_zero (by omega)
    exact ⟨v, w, run_append_owned_none (P := P) (w := w) 0 tS ty e i0 size hun hi0 v n xs hown, by simpa using hown, Keep.refl _ _, fun g hg => .inl hg⟩
  | some ad =>
    have hnews : ∀ j u, ys[j]? = some u → w.cell? (ad.add j) = some u := fun j u hj => by
      obtain ⟨b, off, e, _, hc⟩ := hr j u hj
      cases e
      rw [add_plain]
      exact hc
    obtain ⟨v', w', hrn, ho', hg, _, hat⟩ := run_append_own_at (P := P) w 0 tS ty e i0 z size bytes hun hi0 hz0 hz1 hz2 hzs hsz v n xs hown ad m c ys hy hnews h1 hmax hlen (Nat.zero_le _)
    have hlt := ho'.lt
    refine ⟨v', w', hrn, ho', ⟨hg.os, hg.tape, hg.output, hg.size, fun k hk hn => hg.block k hk (fun e => hn e.symm)⟩, fun g hg' => ?_⟩
    rcases hat with e1 | e1
    · exact .inl (e1 ▸ hg')
    · rw [e1] at hg'
      injection hg' with hg'
      have := hlt g (by rw [e1]; simp; omega)
      exact .inr ⟨by omega, this.2⟩
theorem wp_bulk2 {e tS : TypeId} {i0 : TypeInfo} {z : Value} {size bytes : Nat} (hun : P.underlying tS = some (.slice e)) (hi0 : P.info? e = some i0) (hz0 : i0.zero = some z) (hz1 : i0.size = size) (hz2 : i0.bytes = bytes) (hzs : z.cells.size = size) (hsz : 0 < size)
    {o : Oper} {a : Act} {K : Act → World → Prop} {Q : Exit → Act → World → Prop} (s x : Operand) (ho : o.op = .call { callee := .builtin .append, args := #[s, x], argTypes := #[tS, tS] })
    {w : World} {v : Value} {n : Nat} {xs : List Value} (hown : w.ownsRow 0 e size v n xs) (hs : a.eval s = v) {B : Nat} {A : Option Addr} {m c : Nat} {ys : List Value} (hy : ys.length = m * size) (hr : Rd w B A ys) (hA : A = none → c = 0) (hmc : m ≤ c) (h1 : ∀ u ∈ ys, u.oneCell' = true)
    (hx : a.eval x = .slice A m c) (hlen : (n + m) * bytes ≤ 140737488355328) (hmax : n + m ≤ maxLen)
    (h : ∀ v' w', w'.ownsRow 0 e size v' (n + m) (xs ++ ys) → Keep (fun g => v.ownBlock = some g) w w' → (∀ g, v'.ownBlock = some g → v.ownBlock = some g ∨ (w.heap.size ≤ g ∧ g < w'.heap.size)) → K (a.put o.dst v') w') :
    Oper.wp P o a w K Q := by
  obtain ⟨v', w', hr, h2, h3, h4⟩ := run_bulk (ty := o.type) hun hi0 hz0 hz1 hz2 hzs hsz hown hy hr hA hmc h1 hlen hmax
  unfold Oper.wp execOp
  simp only [ho, resolve, invoke, builtin, Sem.run_bind, Sem.run_pure, Result.andThen_ok, List.map_toArray, List.map_cons, List.map_nil, hs, hx, hr]
  exact h v' w' h2 h3 h4
theorem wpList_bulk {e tS : TypeId} {i0 : TypeInfo} {z : Value} {size bytes : Nat} (hun : P.underlying tS = some (.slice e)) (hi0 : P.info? e = some i0) (hz0 : i0.zero = some z) (hz1 : i0.size = size) (hz2 : i0.bytes = bytes) (hzs : z.cells.size = size) (hsz : 0 < size)
    {ops : Array Oper} {rest : List Oper} {o : Oper} {a : Act} {Q : Exit → Act → World → Prop} (hgd : o.guard = none) (s x : Operand) (ho : o.op = .call { callee := .builtin .append, args := #[s, x], argTypes := #[tS, tS] })
    {w : World} {v : Value} {n : Nat} {xs : List Value} (hown : w.ownsRow 0 e size v n xs) (hs : a.eval s = v) {B : Nat} {A : Option Addr} {m c : Nat} {ys : List Value} (hy : ys.length = m * size) (hr : Rd w B A ys) (hA : A = none → c = 0) (hmc : m ≤ c) (h1 : ∀ u ∈ ys, u.oneCell' = true)
    (hx : a.eval x = .slice A m c) (hlen : (n + m) * bytes ≤ 140737488355328) (hmax : n + m ≤ maxLen)
    (h : ∀ v' w', w'.ownsRow 0 e size v' (n + m) (xs ++ ys) → Keep (fun g => v.ownBlock = some g) w w' → (∀ g, v'.ownBlock = some g → v.ownBlock = some g ∨ (w.heap.size ≤ g ∧ g < w'.heap.size)) → wpList P ops Q rest (a.put o.dst v') w') :
    wpList P ops Q (o :: rest) a w :=
  wpList_plain hgd fun _ hK => wp_bulk2 hun hi0 hz0 hz1 hz2 hzs hsz s x ho hown hs hy hr hA hmc h1 hx hlen hmax fun v' w' h2 h3 h4 => hK _ _ (h v' w' h2 h3 h4)

/-- append of zeros, past the row's room -/
theorem run_append_zeros (w : World) (t tn ty e : TypeId) (i : TypeInfo) (z : Value) (k kn : IntKind) (ht : P.underlying t = some (.slice e)) (htn : P.underlying tn = some (.int kn)) (hi : P.info? e = some i) (hz : i.zero = some z)
    (base : Option Addr) (sLen sCap : Nat) (olds : List Value) (hold : (Builtin.firstCells i.size sLen (.slice base sLen sCap)).run P w.drew = .ok olds.toArray w.drew)
    (n : Nat) (h0 : 0 < n) (hs : 0 < i.size) (hg : sCap < sLen + n) (h63 : ((sLen + n : Nat) : Int) ≤ 9223372036854775807) (h48 : n * i.bytes ≤ 281474976710656) (hfit : Builtin.nextslicecap (sLen + n) sCap * i.bytes ≤ 281474976710656) :
    (Builtin.append_ #[t, tn] ty #[.slice base sLen sCap, .int k n]).run P w =
      .ok (.slice (some ⟨w.heap.size, 0, none⟩) (sLen + n) (grownCap w (sLen + n) sCap e)) (w.drew.alloc (.cells (olds.toArray ++ Builtin.zeroCells z.cells n ++ Builtin.zeroCells z.cells (grownCap w (sLen + n) sCap e - (sLen + n))) e)) := by
  have hn : ¬ (sLen + n ≤ sCap) := by omega
  have hn0 : n ≠ 0 := by omega
  have hw : IntKind.i64.wrap (n : Int) = n := by rw [IntKind.wrap_i64]; omega
  have h63' : ¬ (9223372036854775807 < ((sLen : Int) + (n : Int))) := by omega
  have h48' : ¬ (281474976710656 < Builtin.nextslicecap (sLen + n) sCap * i.bytes) := by omega
  have h48i : ¬ (281474976710656 < (n : Int) * (i.bytes : Int)) := by
    rw [← Int.natCast_mul]
    omega
  have hneg : ¬ ((n : Int) < 0) := by omega
  have hns : ¬ (n * i.size = 0) := Nat.mul_ne_zero hn0 (by omega)
  simp [Builtin.append_, run_underlying ht, run_underlying htn, sizeOf, typeInfo, zeroValue, hi, hz, asInt, asIntOf, hw, hn, hn0, hneg, hns, h63', h48', h48i, Question.forced, hold, newRow, grownCap]

/-- copy, where its run is known -/
theorem wpList_copy_run (w : World) {ops : Array Oper} {rest : List Oper} {o : Oper} {a : Act} {Q : Exit → Act → World → Prop} (hgd : o.guard = none) (d s : Operand) (t t' : TypeId)
    (ho : o.op = .call { callee := .builtin .copy, args := #[d, s], argTypes := #[t, t'] }) (v u : Value) (hd : a.eval d = v) (hs : a.eval s = u) {v' : Value} {w' : World}
    (hr : (Builtin.copy_ #[t, t'] o.type #[v, u]).run P w = .ok v' w') (h : wpList P ops Q rest (a.put o.dst v') w') : wpList P ops Q (o :: rest) a w := by
  refine wpList_plain hgd fun K hK => ?_
  unfold Oper.wp execOp
  simp only [ho, resolve, invoke, builtin, Sem.run_bind, Sem.run_pure, Result.andThen_ok, List.map_toArray, List.map_cons, List.map_nil, hd, hs, hr]
  exact hK _ _ h
theorem step_copy_run2 {ops : Array Oper} {o : Oper} {a : Act} {w : World} {K : Act → World → Prop} {Q : Exit → Act → World → Prop} {E : Prop}
    (hg : o.guard = none) (d x : Operand) (dT sT : TypeId) (hop : o.op = Op.call { callee := Callee.builtin Builtin.copy, args := #[d, x], argTypes := #[dT, sT] })
    (v u : Value) (hd : a.eval d = v) (hx : a.eval x = u) {v' : Value} {w' : World} (hr : (Builtin.copy_ #[dT, sT] o.type #[v, u]).run P w = .ok v' w') (hK : K (a.put o.dst v') w') :
    if Region.wanted o (yielded ops a.tmps) = true then Oper.wp P o a w K Q else E := by
  have hw : Region.wanted o (yielded ops a.tmps) = true := by simp [Region.wanted, hg]
  rw [if_pos hw]
  unfold Oper.wp
  simp [execOp, hop, resolve, invoke, builtin, hd, hx, hr, Result.andThen]
  exact hK
theorem wpList_append_known (w : World) {ops : Array Oper} {rest : List Oper} {o : Oper} {a : Act} {Q : Exit → Act → World → Prop} (hgd : o.guard = none) (s x : Operand) (t tn : TypeId)
    (ho : o.op = .call { callee := .builtin .append, args := #[s, x], argTypes := #[t, tn] }) (vs vx : Value) (hs : a.eval s = vs) (hx : a.eval x = vx)
    (v' : Value) (w' : World) (hr : (Builtin.append_ #[t, tn] o.type #[vs, vx]).run P w = .ok v' w') (h : wpList P ops Q rest (a.put o.dst v') w') : wpList P ops Q (o :: rest) a w := by
  refine wpList_plain hgd fun K hK => ?_
  unfold Oper.wp execOp
  simp only [ho, resolve, invoke, builtin, Sem.run_bind, Sem.run_pure, Result.andThen_ok, List.map_toArray, List.map_cons, List.map_nil, hs, hx, hr]
  exact hK _ _ h

/-- copy into a block known whole -/
theorem run_copy_blk (w : World) (dT sT ty elem : TypeId) (g o dLen dCap : Nat) (a : Addr) (sLen sCap k : Nat) (cur : Array Value) (t : TypeId) (cs : List Value)
    (hu : P.underlying dT = some (.slice elem)) (hs : (P.info? elem).map (·.size) = some k)
    (hg : Blk w g t cur) (hn : cs.length = Nat.min sLen dLen * k)
    (hsrc : ∀ j v, cs[j]? = some v → w.cell? (a.add j) = some v) (hfit : o + cs.length ≤ cur.size) (h1 : ∀ v ∈ cs, v.oneCell' = true) :
    ∃ w', (Builtin.copy_ #[dT, sT] ty #[.slice (some ⟨g, o, none⟩) dLen dCap, .slice (some a) sLen sCap]).run P w = .ok (goInt (Nat.min sLen dLen)) w' ∧
      Blk w' g t (cur.toList.take o ++ cs ++ cur.toList.drop (o + cs.length)).toArray ∧ w'.heap.size = w.heap.size ∧ (∀ j, j ≠ g → w'.heap[j]? = w.heap[j]?) ∧ w'.os = w.os ∧ w'.tape = w.tape ∧ w'.output = w.output := by
  have hl := run_loadCells_list (P := P) w a cs hsrc
  have hst := run_storeCells_at P g o t cs 0 cur w hg (by simpa using hfit) h1
  refine ⟨w.setRow g (cur.toList.take o ++ cs ++ cur.toList.drop (o + cs.length)).toArray, ?_, setRow_heap w g cur _ _ _ hg, by simp [World.setRow], fun j hj => setRow_other w g j _ hj, rfl, rfl, rfl⟩
  cases hq : P.info? elem with
  | none => simp [hq] at hs
  | some i =>
    have hi : i.size = k := by simpa [hq] using hs
    simp [Builtin.copy_, run_underlying hu, Builtin.lenOf, Builtin.firstCells, sizeOf, typeInfo, hq, hi, ← hn, hl, hst]
end
theorem zeroCells_size (z : Array Value) (n : Nat) : (Builtin.zeroCells z n).size = n * z.size := by
  unfold Builtin.zeroCells
  first | (simp; done) | (simp [Nat.mul_comm]; done) | skip
end Go.Proofs.Ytoenkkbcpafanaa.trees

/- clear at rows of the call's own; a world in which what is written over stays a row. -/

namespace Go.Proofs.Ytoenkkbcpafanaa.caches
set_option linter.unusedVariables false
set_option linter.unusedSimpArgs false
open Go.RowKit Go.Proofs.Ytoenkkbcpafanaa.base Go.Proofs.Ytoenkkbcpafanaa.vers Go.Proofs.Ytoenkkbcpafanaa.nodes Go.Proofs.Ytoenkkbcpafanaa.trees

section
variable {P : Program}
theorem run_clear_at (w : World) (S e : TypeId) (i0 : TypeInfo) (z : Value) (k : Nat) (hu : P.underlying S = some (.slice e)) (hi : P.info? e = some i0) (hz : i0.zero = some z) (hk : z.cells.size = k) (hk0 : 0 < k) (h1 : ∀ u ∈ z.cells.toList, u.oneCell' = true)
    (g o n c : Nat) (cur : Array Value) (t : TypeId) (hn : 0 < n) (hg : Blk w g t cur) (hfit : o + n * k ≤ cur.size) :
    ∃ (zs : List Value) (w' : World), zs.length = n * k ∧ (∀ ty, (Builtin.clear_ #[S] ty #[.slice (some ⟨g, o, none⟩) n c]).run P w = .ok (.tuple #[]) w') ∧ Blk w' g t (cur.toList.take o ++ zs ++ cur.toList.drop (o + zs.length)).toArray ∧ w'.heap.size = w.heap.size ∧ (∀ j, j ≠ g → w'.heap[j]? = w.heap[j]?) ∧ w'.os = w.os ∧ w'.tape = w.tape ∧ w'.output = w.output := by
  have hzl : (Builtin.zeroCells z.cells n).toList.length = n * k := by rw [Array.length_toList, zeroCells_size, hk]
  have hz1 : ∀ u ∈ (Builtin.zeroCells z.cells n).toList, u.oneCell' = true := by
    intro u hu
    unfold Builtin.zeroCells at hu
    rw [Array.toList_map] at hu
    obtain ⟨i, _, rfl⟩ := List.mem_map.1 hu
    have hlt : i % z.cells.size < z.cells.size := Nat.mod_lt _ (by omega)
    rw [getElem!_pos z.cells _ hlt]
    exact h1 _ (by simp)
  have hst := run_storeCells_at P g o t (Builtin.zeroCells z.cells n).toList 0 cur w hg (by rw [hzl]; simpa using hfit) hz1
  refine ⟨(Builtin.zeroCells z.cells n).toList, w.setRow g (cur.toList.take o ++ (Builtin.zeroCells z.cells n).toList ++ cur.toList.drop (o + (Builtin.zeroCells z.cells n).toList.length)).toArray, hzl, fun ty => ?_, setRow_heap w g cur _ _ _ hg, by simp [World.setRow], fun j hj => setRow_other w g j _ hj, rfl, rfl, rfl⟩
  obtain ⟨m, rfl⟩ : ∃ m, n = m + 1 := ⟨n - 1, by omega⟩
  simp only [Nat.add_zero] at hst
  simp [Builtin.clear_, run_underlying hu, zeroValue, typeInfo, hi, hz, hst]
theorem run_clear_none (w : World) (S ty e : TypeId) (c : Nat) (a : Option Addr) (hu : P.underlying S = some (.slice e)) : (Builtin.clear_ #[S] ty #[.slice a 0 c]).run P w = .ok (.tuple #[]) w := by
  cases a <;> simp [Builtin.clear_, run_underlying hu]
end

/-- of the blocks F something may be written over; all that was there is still there -/
structure Wr (F : Nat → Prop) (w w' : World) : Prop where
  keep : Keep F w w'
  blk : ∀ b t cs, Blk w b t cs → ∃ cs', cs'.size = cs.size ∧ Blk w' b t cs'
theorem Wr.refl (F : Nat → Prop) (w : World) : Wr F w w := ⟨Keep.refl F w, fun b t cs h => ⟨cs, rfl, h⟩⟩
theorem Wr.trans {F : Nat → Prop} {w w' w2 : World} (h : Wr F w w') (k : Wr F w' w2) : Wr F w w2 :=
  ⟨h.keep.trans k.keep fun _ h _ => h, fun b t cs hb => by
    obtain ⟨c1, e1, h1⟩ := h.blk b t cs hb
    obtain ⟨c2, e2, h2⟩ := k.blk b t c1 h1
    exact ⟨c2, e2.trans e1, h2⟩⟩
theorem Wr.below {F : Nat → Prop} {w w' w2 : World} (h : Wr F w w') (k : Below w'.heap.size w' w2) : Wr F w w2 :=
  h.trans ⟨Keep.of_below k, fun b t cs hb => ⟨cs, rfl, hb.below k hb.lt⟩⟩
theorem Wr.mono {F G : Nat → Prop} {w w' : World} (h : Wr F w w') (hF : ∀ b, F b → G b) : Wr G w w' := ⟨h.keep.mono fun b hb _ => hF b hb, h.blk⟩
/-- n elements of k cells of the blocks F may be written over -/
def RowW (w : World) (t : TypeId) (k : Nat) (A : Option Addr) (n : Nat) (F : Nat → Prop) : Prop := n = 0 ∨ ∃ g cs, A = some ⟨g, 0, none⟩ ∧ F g ∧ Blk w g t cs ∧ n * k ≤ cs.size
theorem RowW.next {F G : Nat → Prop} {w w' : World} {t : TypeId} {k n : Nat} {A : Option Addr} (h : RowW w t k A n F) (hw : Wr G w w') : RowW w' t k A n F := by
  rcases h with h | ⟨g, cs, e, hF, hb, hs⟩
  · exact .inl h
  · obtain ⟨c2, e2, h2⟩ := hw.blk g t cs hb
    exact .inr ⟨g, c2, e, hF, h2, by omega⟩
theorem RowW.of {w : World} {t : TypeId} {k lo n c : Nat} {A : Option Addr} {xs : List Value} {F : Nat → Prop} (h : w.ownsRow lo t k (.slice A n c) n xs) (hF : ∀ g, (Value.slice A n c).ownBlock = some g → F g) : RowW w t k A n F := by
  rcases h.2 with ⟨e, h0⟩ | ⟨g, cap, cur, e, _, hb, hn, _, hs, _⟩
  · exact .inl h0
  · injection e with e1 _ e2
    subst e1
    refine .inr ⟨g, cur, rfl, hF g rfl, hb, ?_⟩
    rw [hs]
    exact Nat.mul_le_mul_right _ hn
theorem clear_row {w : World} {t S : TypeId} {k n c : Nat} {A : Option Addr} {F : Nat → Prop} {i0 : TypeInfo} {z : Value} (hu : Try.prog.underlying S = some (.slice t)) (hi : Try.prog.info? t = some i0) (hz : i0.zero = some z) (hk : z.cells.size = k) (hk0 : 0 < k) (h1 : ∀ u ∈ z.cells.toList, u.oneCell' = true)
    (h : RowW w t k A n F) : ∃ w', (∀ ty, (Builtin.clear_ #[S] ty #[.slice A n c]).run Try.prog w = .ok (.tuple #[]) w') ∧ Wr F w w' := by
  rcases Nat.eq_zero_or_pos n with h0 | h0
  · subst h0
    exact ⟨w, fun ty => run_clear_none w S ty t c A hu, Wr.refl F w⟩
  · rcases h with e | ⟨g, cs, rfl, hF, hb, hs⟩
    · omega
    · obtain ⟨zs, w', hl, hr, hB, hsz, ho, e1, e2, e3⟩ := run_clear_at w S t i0 z k hu hi hz hk hk0 h1 g 0 n c cs t h0 hb (by omega)
      refine ⟨w', hr, ⟨e1, e2, e3, by omega, fun b _ hn => ho b (fun e => hn (e ▸ hF))⟩, fun b t' cs' hb' => ?_⟩
      by_cases e : b = g
      · subst e
        have : Obj.cells cs' t' (0, 0) = Obj.cells cs t (0, 0) := Option.some.inj (hb'.symm.trans hb)
        injection this with e4 e5
        subst e4 e5
        refine ⟨_, ?_, hB⟩
        simp
        omega
      · exact ⟨cs', rfl, (ho b e).trans hb'⟩
theorem zcV (S : TypeId) (hS : S = 45) {w : World} {n c : Nat} {A : Option Addr} {F : Nat → Prop} (h : RowW w 180 3 A n F) : ∃ w', (∀ ty, (Builtin.clear_ #[S] ty #[.slice A n c]).run Try.prog w = .ok (.tuple #[]) w') ∧ Wr F w w' := by
  subst hS
  obtain ⟨i0, hi, hz0, hz1, hz2⟩ := info_parts trees.infoV
  exact clear_row Try.underlying45 hi hz0 rfl (by decide) (by intro u hu; simp [Value.cells] at hu; rcases hu with rfl | rfl | rfl <;> rfl) h
theorem zcE (S : TypeId) (hS : S = 84) {w : World} {n c : Nat} {A : Option Addr} {F : Nat → Prop} (h : RowW w 47 2 A n F) : ∃ w', (∀ ty, (Builtin.clear_ #[S] ty #[.slice A n c]).run Try.prog w = .ok (.tuple #[]) w') ∧ Wr F w w' := by
  subst hS
  obtain ⟨i0, hi, hz0, hz1, hz2⟩ := info_parts trees.infoE
  exact clear_row Try.underlying84 hi hz0 rfl (by decide) (by intro u hu; simp [Value.cells] at hu; rcases hu with rfl | rfl <;> rfl) h
theorem zcK (S : TypeId) (hS : S = 85) {w : World} {n c : Nat} {A : Option Addr} {F : Nat → Prop} (h : RowW w 162 5 A n F) : ∃ w', (∀ ty, (Builtin.clear_ #[S] ty #[.slice A n c]).run Try.prog w = .ok (.tuple #[]) w') ∧ Wr F w w' := by
  subst hS
  obtain ⟨i0, hi, hz0, hz1, hz2⟩ := info_parts trees.infoK
  exact clear_row Try.underlying85 hi hz0 rfl (by decide) (by intro u hu; simp [Value.cells] at hu; rcases hu with rfl | rfl | rfl | rfl | rfl <;> rfl) h
/-- what is kept, but for the last ones: they are cleared -/
theorem clear_tail {w : World} {pre l : List H} {g room c : Nat} (h : w.ownsRow 0 110 8 (.slice (some ⟨g, 0, none⟩) (pre ++ l).length room) (pre ++ l).length (cellsH (pre ++ l))) :
    ∃ w', (∀ ty, (Builtin.clear_ #[98] ty #[.slice (some ⟨g, pre.length * 8, none⟩) l.length c]).run Try.prog w = .ok (.tuple #[]) w') ∧ w'.ownsRow 0 110 8 (.slice (some ⟨g, 0, none⟩) pre.length room) pre.length (cellsH pre) ∧ Keep (fun b => b = g) w w' := by
  obtain ⟨i0, hi, hz0, hz1, hz2⟩ := info_parts infoH
  rcases h.2 with ⟨e, _⟩ | ⟨g', cap, cur, e, _, hb, hn, hm, hs, ht⟩
  · cases e
  · injection e with e1 e0 e2
    injection e1 with e1
    injection e1 with e1
    subst e1 e2
    have hp : cur.toList.take (pre.length * 8) = cellsH pre := by
      have := congrArg (List.take (pre.length * 8)) ht
      rw [List.take_take, cellsH_app, List.take_left' (cellsH_len pre), List.length_append, Nat.min_eq_left (by omega)] at this
      exact this
    rw [List.length_append] at hn
    rcases Nat.eq_zero_or_pos l.length with h0 | h0
    · refine ⟨w, fun ty => by rw [h0]; exact run_clear_none w _ ty _ c _ Try.underlying98, ⟨cellsH_len pre, .inr ⟨g, room, cur, rfl, Nat.zero_le _, hb, by omega, hm, hs, hp⟩⟩, Keep.refl _ _⟩
    · obtain ⟨zs, w', hl, hr, hB, hsz, ho, e1, e2, e3⟩ := run_clear_at (P := Try.prog) w 98 110 i0 _ 8 Try.underlying98 hi hz0 rfl (by decide) (by intro u hu; simp [Value.cells] at hu; rcases hu with rfl | rfl | rfl | rfl | rfl | rfl | rfl | rfl <;> rfl) g (pre.length * 8) l.length c cur 110 h0 hb (by omega)
      refine ⟨w', hr, ⟨cellsH_len pre, .inr ⟨g, room, _, rfl, Nat.zero_le _, hB, by omega, hm, ?_, ?_⟩⟩, ⟨e1, e2, e3, by omega, fun b _ hn => ho b hn⟩⟩
      · simp; omega
      · rw [List.toList_toArray, List.append_assoc, List.take_left' (by simp; omega), hp]
end Go.Proofs.Ytoenkkbcpafanaa.caches

/- Cache's forget: what was kept is cleared. -/

namespace Go.Proofs.Ytoenkkbcpafanaa.caches
set_option linter.unusedVariables false
set_option linter.unusedSimpArgs false
open Go.RowKit Go.Proofs.Ytoenkkbcpafanaa.base Go.Proofs.Ytoenkkbcpafanaa.vers Go.Proofs.Ytoenkkbcpafanaa.nodes Go.Proofs.Ytoenkkbcpafanaa.trees

abbrev H.eb (x : H) (b : Nat) : Prop := (Value.slice x.n.A x.n.es.length x.n.c).ownBlock = some b
/-- where a node's clearing stands: its list of secrets is as it was -/
structure NodeAt (w0 : World) (x : H) (q : Nat) (wr : World) : Prop where
  rd : RdF wr x.eb x.n.A (cellsE x.n.es)
  vs : ∀ y ∈ x.n.es, RowW wr 180 3 y.A y.l.length (fun b => x.F b ∧ ¬ x.eb b)
  er : RowW wr 47 2 x.n.A x.n.es.length x.F
  kr : RowW wr 162 5 x.n.Q x.n.ks.length x.F
  box : Blk wr q 110 #[.int .u64 (x.r.k : Int), .int .i64 x.r.g, .int .i64 x.r.o, .int .i64 x.r.n, .bool x.n.lf, .slice x.n.A x.n.es.length x.n.c, .slice x.n.Q x.n.ks.length x.n.m, .int .i64 (x.p : Int)]
  wr : Wr x.F w0 wr
  q : w0.heap.size ≤ q
  lt : ∀ b, x.F b → b < w0.heap.size
  el : ∀ b, x.eb b → b < w0.heap.size
section
variable {w0 wr w' : World} {x : H} {q : Nat}
theorem NodeAt.below (h : NodeAt w0 x q wr) (hb : Below wr.heap.size wr w') : NodeAt w0 x q w' :=
  have hw : Wr (fun _ => False) wr w' := (Wr.refl _ _).below hb
  ⟨h.rd.agree (Agree.of_below hb fun b hb' => Nat.lt_of_lt_of_le (h.el b hb') h.wr.keep.size), fun y hy => (h.vs y hy).next hw, h.er.next hw, h.kr.next hw, h.box.below hb h.box.lt, h.wr.below hb, h.q, h.lt, h.el⟩
theorem NodeAt.clear1 (h : NodeAt w0 x q wr) (hw : Wr (fun b => x.F b ∧ ¬ x.eb b) wr w') : NodeAt w0 x q w' :=
  ⟨h.rd.agree (hw.keep.agree fun b hb => ⟨Nat.lt_of_lt_of_le (h.el b hb) h.wr.keep.size, fun e => e.2 hb⟩), fun y hy => (h.vs y hy).next hw, h.er.next hw, h.kr.next hw, hw.keep.blk h.box (fun e => by have := h.lt q e.1; have := h.q; omega), h.wr.trans (hw.mono fun _ e => e.1), h.q, h.lt, h.el⟩
theorem NodeAt.new {w : World} {x : H} (ho : OwnNF w x.F x.n) (hlt : ∀ b, x.F b → b < w.heap.size) : NodeAt w x w.heap.size (w.alloc (.cells #[.int .u64 (x.r.k : Int), .int .i64 x.r.g, .int .i64 x.r.o, .int .i64 x.r.n, .bool x.n.lf, .slice x.n.A x.n.es.length x.n.c, .slice x.n.Q x.n.ks.length x.n.m, .int .i64 (x.p : Int)] 110)) := by
  obtain ⟨⟨he1, he2, he3, he4⟩, ⟨hk1, hk2, hk3, hk4⟩, hne⟩ := ho
  have hb : Below w.heap.size w (w.alloc (.cells #[.int .u64 (x.r.k : Int), .int .i64 x.r.g, .int .i64 x.r.o, .int .i64 x.r.n, .bool x.n.lf, .slice x.n.A x.n.es.length x.n.c, .slice x.n.Q x.n.ks.length x.n.m, .int .i64 (x.p : Int)] 110)) := (Below.refl _ _).alloc (Nat.le_refl _) _
  have hw : Wr (fun _ => False) w (w.alloc (.cells #[.int .u64 (x.r.k : Int), .int .i64 x.r.g, .int .i64 x.r.o, .int .i64 x.r.n, .bool x.n.lf, .slice x.n.A x.n.es.length x.n.c, .slice x.n.Q x.n.ks.length x.n.m, .int .i64 (x.p : Int)] 110)) := (Wr.refl _ _).below hb
  obtain ⟨A', c', e, _, _, hr⟩ := row_rdF he1
  injection e with e1 _ e2
  subst e1 e2
  refine ⟨hr.agree (Agree.of_below hb fun b hb' => hlt b (he3 b hb')), fun y hy => ?_, (RowW.of he1 he3).next hw, (RowW.of hk1 hk3).next hw, Blk.new w _ _, (Wr.refl _ _).below hb, Nat.le_refl _, hlt, fun b hb' => hlt b (he3 b hb')⟩
  exact (RowW.of (he4 y hy).1.1 fun b hb' => ⟨((he4 y hy).1.2.2.2 b hb').1, fun e => ((he4 y hy).1.2.2.2 b hb').2 e.symm⟩).next hw
theorem NodeAt.e_at (h : NodeAt w0 x q wr) {j : Nat} (hj : j < x.n.es.length) : ∃ b off, x.n.A = some ⟨b, off, none⟩ ∧ b < wr.heap.size ∧ wr.cell? ⟨b, off + j * 2, none⟩ = some (.string x.n.es[j].s) ∧ wr.cell? ⟨b, off + j * 2 + 1, none⟩ = some (.slice x.n.es[j].A x.n.es[j].l.length x.n.es[j].c) := by
  obtain ⟨e0, e1⟩ := cellsE_at x.n.es hj
  obtain ⟨b, off, e, hb, c0⟩ := h.rd _ _ e0
  obtain ⟨b', off', e', _, c1⟩ := h.rd _ _ e1
  rw [e] at e'
  cases e'
  exact ⟨b, off, e, Nat.lt_of_lt_of_le (h.el b hb) h.wr.keep.size, by rw [show off + j * 2 = off + 2 * j by omega]; exact c0, by rw [show off + j * 2 + 1 = off + (2 * j + 1) by omega]; exact c1⟩
end
/-- the loop's head: the nodes from j on are as they were -/
def FA (w : World) (l : List H) (j : Nat) (wr : World) : Prop := Keep (fun b => ∃ x ∈ l, x.F b) w wr ∧ ∀ k (h : k < l.length), j ≤ k → OwnNF wr l[k].F l[k].n
theorem FA.step {w wr w' : World} {l : List H} {j : Nat} (h : FA w l j wr) (hj : j < l.length) (hlt : ∀ x ∈ l, ∀ b, x.F b → b < w.heap.size) (hap : l.Pairwise (fun x y => ∀ b, x.F b → ¬ y.F b)) (hn : Wr l[j].F wr w') : FA w l (j + 1) w' := by
  refine ⟨h.1.trans hn.keep fun b hb _ => ⟨_, List.getElem_mem hj, hb⟩, fun k hk hjk => (h.2 k hk (by omega)).agree (hn.keep.agree fun b hb => ⟨Nat.lt_of_lt_of_le (hlt _ (List.getElem_mem hk) b hb) h.1.size, fun e => ?_⟩)⟩
  exact List.pairwise_iff_getElem.1 hap j k hj hk (by omega) b e hb
theorem tail_rd {w : World} {pre l : List H} {g room : Nat} (h : w.ownsRow 0 110 8 (.slice (some ⟨g, 0, none⟩) (pre ++ l).length room) (pre ++ l).length (cellsH (pre ++ l))) : RdF w (fun b => b = g) (some ⟨g, pre.length * 8, none⟩) (cellsH l) := fun j u hj => by
  have hlt : j < (cellsH l).length := (List.getElem?_eq_some_iff.1 hj).1
  rw [cellsH_len] at hlt
  refine ⟨g, pre.length * 8, rfl, rfl, (h.cellAt (pre.length * 8 + j) (by rw [List.length_append]; omega)).trans ?_⟩
  rw [cellsH_app, List.getElem?_append_right (by rw [cellsH_len]; omega), cellsH_len, show pre.length * 8 + j - pre.length * 8 = j by omega]
  exact hj

set_option maxRecDepth 100000 in
set_option maxHeartbeats 4000000 in
theorem forget_any (pre l : List H) (g room c : Nat) (w : World) (hrow : w.ownsRow 0 110 8 (.slice (some ⟨g, 0, none⟩) (pre ++ l).length room) (pre ++ l).length (cellsH (pre ++ l))) (hlen : (pre ++ l).length ≤ 32)
    (hnode : ∀ x ∈ l, OwnNF w x.F x.n) (hlt : ∀ x ∈ l, ∀ b, x.F b → b < w.heap.size) (hng : ∀ x ∈ l, ∀ b, x.F b → b ≠ g) (hap : l.Pairwise (fun x y => ∀ b, x.F b → ¬ y.F b)) :
    Calls Try.prog 120 #[.slice (some ⟨g, pre.length * 8, none⟩) l.length c] w fun e w' => e = .returned (.tuple #[]) ∧ w'.ownsRow 0 110 8 (.slice (some ⟨g, 0, none⟩) pre.length room) pre.length (cellsH pre) ∧ Keep (fun b => b = g ∨ ∃ x ∈ l, x.F b) w w' := by
  have hgl := (hrow.lt g rfl).2
  have hROW : ∀ wr, Keep (fun b => ∃ x ∈ l, x.F b) w wr → wr.ownsRow 0 110 8 (.slice (some ⟨g, 0, none⟩) (pre ++ l).length room) (pre ++ l).length (cellsH (pre ++ l)) := fun wr hk => ownsRow_agree hrow fun b hb => (by cases hb; exact hk.block g hgl fun ⟨x, hx, h⟩ => hng x hx g h rfl)
  have HR := vers.lay hROW
  have H0 := vers.lay (show FA w l 0 w from ⟨Keep.refl _ _, fun k hk _ => hnode _ (List.getElem_mem hk)⟩)
  have HL := vers.lay hlt
  have HP := vers.lay hap
  have hn32 : l.length ≤ 32 := by rw [List.length_append] at hlen; omega
  have HC := vers.lay (fun wr (hk : Keep (fun b => ∃ x ∈ l, x.F b) w wr) => clear_tail (c := c) (hROW wr hk))
  obtain ⟨off, hoff⟩ : ∃ off, off = pre.length * 8 := ⟨_, rfl⟩
  have HO := vers.lay hoff
  rw [← hoff] at HC ⊢
  obtain ⟨n, hn⟩ : ∃ n, n = l.length := ⟨_, rfl⟩
  have HN := vers.lay hn
  rw [← hn] at HC hn32 ⊢
  clear hoff hn hrow hnode hlt hap hROW hlen hng
  go_enter Try.func120, Try.ntmps120
  go_wp2_with fail
  go_loopw [8] (fun i wr => ∃ j : Nat, i = .int .i64 (j : Int) ∧ j ≤ n ∧ Hid (FA w l j wr)) (fun i _ => n - (RowKit.intOf i).toNat)
  case atStart => exact ⟨0, rfl, Nat.zero_le _, H0⟩
  case round =>
    clear H0
    obtain ⟨j, rfl, hj, HF⟩ := hrel
    generalize wr = wo at *
    clear wr
    by_cases hlt : j < n
    · have hjl : j < l.length := by rw [← HN.out]; exact hlt
      obtain ⟨b, off', e9, hbg, y0, y1, y2, y3, y4, y5, y6, y7⟩ := RdF.h_at (tail_rd (HR.out wo HF.out.1)) hjl
      rw [← HO.out] at e9
      cases e9
      clear hbg
      have hbl : g < wo.heap.size := Nat.lt_of_lt_of_le hgl HF.out.1.size
      have hN0 := NodeAt.new (HF.out.2 j hjl (Nat.le_refl _)) (fun b hb => Nat.lt_of_lt_of_le (HL.out _ (List.getElem_mem hjl) b hb) HF.out.1.size)
      have HS := vers.lay (fun w' (h : Wr l[j].F wo w') => HF.out.step hjl HL.out HP.out h)
      obtain ⟨x, hx⟩ : ∃ x, l[j] = x := ⟨_, rfl⟩
      have hel := (HF.out.2 j hjl (Nat.le_refl _)).ns.1.2.1
      rw [hx] at y0 y1 y2 y3 y4 y5 y6 y7 hN0 HS hel
      have hel2 : x.n.es.length ≤ 140737488355328 := by omega
      clear hx HF hel
      go_wp2_with fail
      generalize hW : wo.alloc (.cells #[.int .u64 (x.r.k : Int), .int .i64 x.r.g, .int .i64 x.r.o, .int .i64 x.r.n, .bool x.n.lf, .slice x.n.A x.n.es.length x.n.c, .slice x.n.Q x.n.ks.length x.n.m, .int .i64 (x.p : Int)] 110) = W at hN0 ⊢
      obtain ⟨q, hq⟩ : ∃ q, q = wo.heap.size := ⟨_, rfl⟩
      have HQ := vers.lay hq
      rw [← hq] at hN0 ⊢
      have HW := vers.lay hW
      clear hW hq y0 y1 y2 y3 y4 y5 y6 y7
      have z1 := hN0.box.cell 5
      simp only [List.getElem?_toArray, List.getElem?_cons_zero, List.getElem?_cons_succ] at z1
      have hql := hN0.box.lt
      have HN1 := vers.lay hN0
      clear hN0
      go_wp2_with fail
      go_loopw [16] (fun i wx => ∃ k : Nat, i = .int .i64 (k : Int) ∧ k ≤ x.n.es.length ∧ Hid (NodeAt wo x q wx)) (fun i _ => x.n.es.length - (RowKit.intOf i).toNat)
      case atStart => exact ⟨0, rfl, Nat.zero_le _, HN1⟩
      case round =>
        obtain ⟨k, rfl, hk, HK⟩ := hrel
        clear HN1 z1 hql
        by_cases hk1 : k < x.n.es.length
        · obtain ⟨be, oe, eA, hbe, u0, u1⟩ := HK.out.e_at hk1
          rw [eA]
          have hV := HK.out.vs _ (List.getElem_mem hk1)
          generalize hxe : x.n.es[k] = y at u0 u1 hV
          obtain ⟨ys, yl, yA, yc⟩ := y
          simp only at u0 u1 hV
          have hb6 : Below wr.heap.size wr (wr.alloc (.cells #[.string ys, .slice yA yl.length yc] 47)) := (Below.refl _ _).alloc (Nat.le_refl _) _
          have kY := Blk.new wr 47 #[.string ys, .slice yA yl.length yc]
          have HK6 := vers.lay (HK.out.below hb6)
          have hV6 := hV.next ((Wr.refl (fun _ => False) _).below hb6)
          clear HK hV hb6 hxe
          go_upto_region 6 with (fail)
          generalize hW6 : wr.alloc (.cells #[.string ys, .slice yA yl.length yc] 47) = W6 at HK6 hV6 kY ⊢
          have HW6 := vers.lay hW6
          clear hW6 u0 u1 hbe
          have v1 := kY.cell 1
          simp only [List.getElem?_toArray, List.getElem?_cons_zero, List.getElem?_cons_succ] at v1
          have hyl := kY.lt
          clear kY
          obtain ⟨w7, hr7, hw7⟩ := zcV (c := yc) 45 rfl hV6
          have HK7 := vers.lay (HK6.out.clear1 hw7)
          clear HK6 hV6 hw7
          go_wp2_with fail
          exact ⟨⟨k + 1, by go_num, hk1, HK7⟩, by first | (simp [RowKit.intOf]; done) | (simp [RowKit.intOf]; omega) | omega⟩
        · obtain rfl : k = x.n.es.length := by omega
          have z5 := HK.out.box.cell 5
          simp only [List.getElem?_toArray, List.getElem?_cons_zero, List.getElem?_cons_succ] at z5
          have hqx := HK.out.box.lt
          have hE := HK.out.er
          obtain ⟨w7, hr7, hw7⟩ := zcE (c := x.n.c) 84 rfl hE
          have kB := hw7.keep.blk HK.out.box (fun e => by have := HK.out.lt q e; have := HK.out.q; omega)
          have hK7 := HK.out.kr.next hw7
          have hw8 := HK.out.wr.trans hw7
          clear HK hE hw7
          go_upto_region 9 with (fail)
          obtain ⟨w9, hr9, hw9⟩ := zcK (c := x.n.m) 85 rfl hK7
          have HF9 := vers.lay (HS.out w9 (hw8.trans hw9))
          clear z5 hqx hr7
          have z5 := kB.cell 6
          simp only [List.getElem?_toArray, List.getElem?_cons_zero, List.getElem?_cons_succ] at z5
          have hqx := kB.lt
          clear kB hw8 hw9 hK7
          go_wp2_with fail
          exact ⟨⟨j + 1, by go_num, hlt, HF9⟩, by first | (simp [RowKit.intOf]; done) | (simp [RowKit.intOf]; omega) | omega⟩
    · obtain rfl : j = n := by omega
      obtain ⟨w7, hr7, ho7, hk7⟩ := HC.out wo HF.out.1
      have hF : Keep (fun b => b = g ∨ ∃ x ∈ l, x.F b) w w7 := Keep.trans (S := fun b => b = g ∨ ∃ x ∈ l, x.F b) (HF.out.1.mono fun b h _ => .inr h) hk7 fun b h _ => .inl h
      clear HC HF
      go_wp2_with fail
      refine bodyPost_end (v := .tuple #[]) (by simp [results, Try.results120, go_sem]) rfl ⟨rfl, ho7, hF⟩
end Go.Proofs.Ytoenkkbcpafanaa.caches

/-
  The shadow machine, part 9: all operations but calls, together.
-/
import Derived.Test.YtbgebincgfpanaaSxH
namespace Go.Sx
open Go Go.RowKit

section
variable {P : Program} {F : Fr} {w : World} {K : Nat → Nat} {β : List Nat} {H : Heap} {ρ : Nat → SV} {a : Act} {o : Oper}

theorem box_sound (h : Inv F w K β H ρ a.tmps) {e : TypeId} {x : Operand} (ho : o.op = .box e x) (hx : Operand.inB F.n x = true) {cs : List SV} (hs : (valE ρ x).bind SV.cells? = some cs) :
    OpRes P F o a w (putE ρ o.dst (.ptr H.length 0)) (H ++ [cs]) := by
  cases hxe : valE ρ x with
  | none => rw [hxe] at hs; cases hs
  | some sx =>
    rw [hxe] at hs
    have hcr := cells_ok (valE_rep h hx hxe) hs
    refine ⟨_, _, K, _, .inl ?_, newbox h hcr e o.dst⟩
    unfold execOp; rw [ho]
    simp [Instr.box, newVar, newRow]

theorem alloc_sound (h : Inv F w K β H ρ a.tmps) {t : TypeId} (ho : o.op = .alloc t) {cs : List SV} (hs : zeroS P t = some cs) :
    OpRes P F o a w (putE ρ o.dst (.ptr H.length 0)) (H ++ [cs]) := by
  obtain ⟨i, z, hi, hz, hl, hc, hcr⟩ := zeroS_ok hs
  refine ⟨_, _, K, _, .inl ?_, newbox h (hcr w K β) t o.dst⟩
  unfold execOp; rw [ho]
  simp [Instr.alloc, zeroValue, typeInfo, hi, hz, newVar, newRow]

theorem store_sound (h : Inv F w K β H ρ a.tmps) {t : TypeId} {x y : Operand} (ho : o.op = .store t x y) (hx : Operand.inB F.n x = true) (hy : Operand.inB F.n y = true) {sa sx : SV} (hxe : valE ρ x = some sa) (hye : valE ρ y = some sx)
    {H' : Heap} (hs : storeE P t sa sx H = some H') : OpRes P F o a w (putE ρ o.dst .undef) H' := by
  unfold storeE at hs
  split at hs
  · rename_i bx off ps hps
    split at hs
    · rename_i cs hcs
      split at hs <;> cases hs
      rename_i hc
      obtain ⟨hl, h0, hle⟩ := hc
      have hra := valE_rep h hx hxe
      have hcx := cells_ok (valE_rep h hy hye) hps
      generalize hva : a.eval x = va at hra
      cases hra with
      | ptr _ _ b hb =>
        obtain ⟨k0, vs, e, hheap, hvl, h1, hrep⟩ := h.box.2.2 bx b cs hb hcs
        have hcr : CR w K β vs cs := ⟨hvl, h1, hrep⟩
        have hpl : (a.eval y).cells.toList.length = ps.length := hcx.len.symm
        obtain ⟨i, hi, hsz⟩ := cellsOf_info (P := P) (t := t) (by omega)
        have hone : ∀ u ∈ (a.eval y).cells.toList, u.oneCell' = true := by
          intro u hu
          obtain ⟨j, hj⟩ := List.mem_iff_getElem?.1 hu
          have hjl : j < ps.length := by rw [← hpl]; exact (List.getElem?_eq_some_iff.1 hj).1
          exact oneCell_of (hcx.rep j u _ hj (List.getElem?_eq_getElem hjl)) (hcx.one _ (List.getElem_mem hjl))
        have hst := run_storeCells_at P b off e (a.eval y).cells.toList 0 vs.toArray w hheap (by simp at hpl ⊢; omega) hone
        simp only [Nat.add_zero] at hst
        have hnew := setRow_heap w b vs.toArray (vs.toArray.toList.take off ++ (a.eval y).cells.toList ++ vs.toArray.toList.drop (off + (a.eval y).cells.toList.length)).toArray e _ hheap
        generalize hw' : w.setRow b (vs.toArray.toList.take off ++ (a.eval y).cells.toList ++ vs.toArray.toList.drop (off + (a.eval y).cells.toList.length)).toArray = w' at hst hnew
        have hother : ∀ c, c ≠ b → w'.heap[c]? = w.heap[c]? := fun c hcb => by rw [← hw']; exact setRow_other w b c _ hcb
        have hsize : w'.heap.size = w.heap.size := by rw [← hw']; simp
        have hbm : b ∈ β := List.mem_of_getElem? hb
        have g : Grow w K β w' K β none := by
          refine ⟨by rw [← hw']; rfl, by rw [← hw']; rfl, by rw [← hw']; rfl, by omega, fun c _ hcb _ => hother c (fun e => hcb (e ▸ hbm)), fun c j hj => ?_, fun _ => Nat.le_refl _, fun _ _ _ => rfl, fun _ _ h => h,
            fun i c hi hc => by rw [List.getElem?_eq_none hi] at hc; cases hc⟩
          exact World.cell?_of_block (w := w) (a := ⟨c, j, none⟩) (hother c (fun e => by subst e; omega))
        have hbox : BoxInv w' K β (H.set bx (splice cs off ps)) := by
          refine ⟨by simp [h.box.1], h.box.2.1, fun i c ds hic hid => ?_⟩
          rw [List.getElem?_set] at hid
          by_cases hib : bx = i
          · subst hib
            rw [hb] at hic; cases hic
            rw [if_pos rfl] at hid
            have hbl : bx < H.length := (List.getElem?_eq_some_iff.1 hcs).1
            rw [if_pos hbl] at hid; cases hid
            have hsp := hcr.splice hcx off
            refine ⟨k0, _, e, hnew, ?_, hsp.one, fun j v c hv hc => g.rep (hsp.rep j v c (by simpa using hv) hc)⟩
            have := hsp.len
            simpa using this
          · rw [if_neg hib] at hid
            obtain ⟨k1, us, e', g1, g2, g3, g4⟩ := h.box.2.2 i c ds hic hid
            have hcb : c ≠ b := fun e2 => by
              subst e2
              have hi1 := (List.getElem?_eq_some_iff.1 hb)
              have hi2 := (List.getElem?_eq_some_iff.1 hic)
              obtain ⟨p1, q1⟩ := hi1
              obtain ⟨p2, q2⟩ := hi2
              exact hib ((List.getElem_inj h.box.2.1).1 (q1.trans q2.symm))
            exact ⟨k1, us, e', by rw [hother c hcb]; exact g1, g2, g3, fun j v d hv hd => g.rep (g4 j v d hv hd)⟩
        have hkw : ∀ c, K c ≠ 0 → c < w'.heap.size := fun c hc => by rw [hsize]; exact h.kw c hc
        refine ⟨undef, w', K, β, .inr ⟨?_, rfl⟩, ?_⟩
        · unfold execOp; rw [ho]
          have hsv : (Instr.storeAt t (.pointer (some ⟨b, off, none⟩)) (a.eval y)).run P w = .ok () w' := by
            have hce : (a.eval y).cells.size = i.size := by have := hpl; simp at this; omega
            simp [Instr.storeAt, Instr.sureAddr, storeVar, sizeOf, typeInfo, hi, hce, hst]
          show Sem.run P (do Instr.storeAt t (a.eval x) (a.eval y); pure Next.skip) w = _
          rw [hva]
          simp [hsv]
        · cases hd : o.dst with
          | none =>
            have := h.put (x := none) (ρ' := ρ) g (by intro b hb; cases hb) hbox hkw F.n undef (fun i hi _ => Weak.refl _) (fun hd => absurd hd (Nat.lt_irrefl _))
              (fun i p y b _ _ _ _ e => by cases e) (fun hd => absurd hd (Nat.lt_irrefl _)) (fun hd => absurd hd (Nat.lt_irrefl _)) (fun hd => absurd hd (Nat.lt_irrefl _))
            have he : a.tmps.setIfInBounds F.n undef = a.tmps := by rw [← h.size]; exact Array.setIfInBounds_eq_of_size_le (Nat.le_refl _)
            rw [he] at this
            exact this
          | some d =>
            have hu : ∀ s, upd ρ d s d = s := fun s => by simp [upd]
            have hn : ∀ s i, i ≠ d → upd ρ d s i = ρ i := fun s i hi => by simp [upd, hi]
            have hf0 : ∀ p, flagAt .undef p = none := fun p => by cases p <;> rfl
            exact h.put (x := none) (ρ' := upd ρ d .undef) g (by intro b hb; cases hb) hbox hkw d _ (fun i hi hd => by rw [hn _ i hd]; exact Weak.refl _) (fun _ => by rw [hu]; exact .undef _)
              (fun i p y b _ _ _ _ e => by cases e) (fun _ p y hf => by rw [hu, hf0] at hf; cases hf) (fun _ p p' y y' b hf => by rw [hu, hf0] at hf; cases hf)
              (fun _ i p p' y y' b _ _ _ hf' => by rw [hu, hf0] at hf'; cases hf')
    · cases hs
  · cases hs

theorem build_sound (h : Inv F w K β H ρ a.tmps) {t : TypeId} {parts : Array (Nat × Operand)} (ho : o.op = .build t parts) (hb : ∀ p ∈ parts.toList, Operand.inB F.n p.2 = true) {zs cs : List SV} (hz : zeroS P t = some zs)
    (hf : (∃ pl, placesOf P t = some pl ∧ fillS ρ (fun i => pl[i]?) zs parts.toList = some cs) ∨ (∃ k, elemCells P t = some k ∧ fillS ρ (fun i => some (i * k, k)) zs parts.toList = some cs)) : PureOk P w K β o a (.agg cs) := by
  obtain ⟨i, z, hi, hzz, hl, hc, hcr⟩ := zeroS_ok hz
  have he : execOp a.eval o = (do pure (Next.value (← Instr.build t (parts.map fun p => (p.1, a.eval p.2))))) := by unfold execOp; rw [ho]
  have hpl : (parts.map fun p => (p.1, a.eval p.2)).toList = parts.toList.map fun p => (p.1, a.eval p.2) := by simp
  rcases hf with ⟨pl, hp, hf⟩ | ⟨k, hk, hf⟩
  · obtain ⟨cells', h1, h2⟩ := fill_ok h parts.toList z.cells zs cs hb (hcr w K β) hf
    unfold placesOf at hp
    split at hp
    · rename_i fs hu
      refine pure_of_val he (r := .agg cells') (run_build w t _ _ ?_) (by have := Rep.agg _ _ h2.len h2.one h2.rep; simpa using this) (flag_agg _)
      unfold Program.built
      simp only [hi, hu, hzz, hp, hpl]
      rw [← h1]
      congr 1
      funext j
      simp
    · cases hp
  · obtain ⟨cells', h1, h2⟩ := fill_ok h parts.toList z.cells zs cs hb (hcr w K β) hf
    unfold elemCells at hk
    split at hk
    · rename_i n e hu
      cases hie : P.info? e with
      | none => rw [hie] at hk; cases hk
      | some ie =>
        rw [hie] at hk; cases hk
        refine pure_of_val he (r := .agg cells') (run_build w t _ _ ?_) (by have := Rep.agg _ _ h2.len h2.one h2.rep; simpa using this) (flag_agg _)
        unfold Program.built
        simp only [hi, hu, hzz, hie, hpl]
        exact h1
    · cases hk

theorem flatten_get {α : Type} (zs : List α) : ∀ (n j : Nat), j < n * zs.length → (List.replicate n zs).flatten[j]? = zs[j % zs.length]? := by
  intro n
  induction n with
  | zero => intro j hj; omega
  | succ n ih =>
    intro j hj
    rw [List.replicate_succ, List.flatten_cons, List.getElem?_append]
    split
    · rename_i hlt; rw [Nat.mod_eq_of_lt hlt]
    · rename_i hge
      rw [ih (j - zs.length) (by rw [Nat.succ_mul] at hj; omega)]
      conv => rhs; rw [Nat.mod_eq_sub_mod (show j ≥ zs.length by omega)]

theorem flatten_len {α : Type} (zs : List α) (n : Nat) : (List.replicate n zs).flatten.length = n * zs.length := by
  simp

/-- n elements, each of the zero cells. -/
theorem zeros_ok {z : Array Value} {zs : List SV} (hcr : CR w K β z.toList zs) (hk : 0 < zs.length) (n : Nat) :
    CR w K β ((Array.range (n * zs.length)).map (z[· % z.size]!)).toList (List.replicate n zs).flatten := by
  have hzl : z.size = zs.length := by simpa using hcr.len.symm
  refine ⟨by simp, fun c hc => ?_, fun j v c hv hc => ?_⟩
  · obtain ⟨l, hl, hcl⟩ := List.mem_flatten.1 hc
    obtain ⟨_, rfl⟩ := List.mem_replicate.1 hl
    exact hcr.one c hcl
  · have hj : j < n * zs.length := by
      have := (List.getElem?_eq_some_iff.1 hc).1
      rwa [flatten_len] at this
    rw [flatten_get zs n j hj] at hc
    have hm : j % zs.length < zs.length := Nat.mod_lt _ hk
    have hmz : j % z.size < z.size := by rw [hzl]; exact hm
    have hv' : v = z[j % z.size]! := by
      rw [Array.getElem?_toList] at hv
      rw [Array.getElem?_map, Array.getElem?_range, if_pos hj] at hv
      cases hv; rfl
    rw [← hzl] at hc
    refine hcr.rep (j % z.size) v c ?_ hc
    rw [hv', Array.getElem?_toList, getElem!_pos z _ hmz, Array.getElem?_eq_getElem hmz]

theorem buildSlice_sound (h : Inv F w K β H ρ a.tmps) {t e len : Nat} {parts : Array (Nat × Operand)} (ho : o.op = .buildSlice t len parts) (hb : ∀ p ∈ parts.toList, Operand.inB F.n p.2 = true) (hu : P.underlying t = some (.slice e)) {zs cs : List SV}
    (hz : zeroS P e = some zs) (hok : elemOk P e (P.cellsOf e) = true) (hmax : len * P.cellsOf e ≤ 16777216) (hf : fillS ρ (fun i => some (i * P.cellsOf e, P.cellsOf e)) (List.replicate len zs).flatten parts.toList = some cs) :
    OpRes P F o a w (putE ρ o.dst (.lst (some e) (P.cellsOf e) cs)) H := by
  obtain ⟨i, z, hi, hzz, hl, hc, hcr⟩ := zeroS_ok hz
  obtain ⟨i', z', hi', hz', hzs, hk, hk0, hby⟩ := elemOk_spec hok
  rw [hi] at hi'; cases hi'
  rw [hzz] at hz'; cases hz'
  rw [hc] at hk hk0 hmax hf hok ⊢
  have hzl : zs.length = z.cells.size := by rw [hl, hzs]
  obtain ⟨cells', h1, h2⟩ := fill_ok h parts.toList _ _ cs hb (zeros_ok (hcr w K β) (by omega) len) hf
  have hcl : cells'.size = len * i.size := by
    have e1 : cs.length = cells'.size := by simpa using h2.len
    have e2 : ∀ (ps : List (Nat × Operand)) (c0 c1 : List SV), fillS ρ (fun j => some (j * i.size, i.size)) c0 ps = some c1 → c1.length = c0.length := by
      intro ps
      induction ps with
      | nil => intro c0 c1 hh; cases hh; rfl
      | cons p ps ih =>
        intro c0 c1 hh
        simp only [fillS] at hh
        split at hh
        · rename_i off size qs hp hq
          split at hh
          · rename_i hcc
            rw [ih _ _ hh]
            simp [Sx.splice]; omega
          · cases hh
        · cases hh
    rw [← e1, e2 _ _ _ hf, flatten_len, hl]
  have hrun : (Instr.buildSlice t len (parts.map fun p => (p.1, a.eval p.2))).run P w = .ok (.slice (some ⟨w.heap.size, 0, none⟩) len len) (w.alloc (.cells cells' e)) := by
    have hzi : zs.length = i.size := hl
    rw [hzi] at h1
    by_cases h0 : len * i.size = 0
    · have hz0 : len = 0 := by
        rcases Nat.eq_zero_or_pos len with h | h
        · exact h
        · have := Nat.mul_pos h hk0; omega
      subst hz0
      have hr0 : ∀ f : Nat → Value, (Array.range 0).map f = #[] := fun f => by apply Array.ext'; simp
      simp only [Nat.zero_mul, hr0] at h1
      simp [Instr.buildSlice, run_underlying hu, sizeOf, typeInfo, hi, hr0, h1, newRow]
    · simp [Instr.buildSlice, run_underlying hu, sizeOf, typeInfo, zeroValue, hi, hzz, h0, h1, newRow, Nat.not_lt.2 hmax]
  have hfr := fresh_row (w := w) (w' := w.alloc (.cells cells' e)) (L := cells'.toList) (vs := cells'.toList) (cs := cs) (e := e) (k := i.size) (len := len) (cap := len) (B := F.mine) (q := some e)
    h.box h.kw (.inl h.hs) (by show w.heap.push _ = _; simp) rfl rfl rfl hk0 List.take_length (by simp; omega) h2.len (Nat.le_refl _) (by simp; omega) (by
      have : len * 1 ≤ len * i.size := Nat.mul_le_mul_left _ hk0
      unfold maxLen; omega) h2.one h2.rep
  obtain ⟨g, b1, b2, b3, b4⟩ := hfr
  refine ⟨_, _, _, β, .inl ?_, put_fresh h g b1 b2 o.dst b3 b4 (fun i _ => Weak.refl _)⟩
  unfold execOp; rw [ho]
  exact run_value hrun

theorem makeSlice_sound (h : Inv F w K β H ρ a.tmps) {t e : Nat} {x y : Operand} (ho : o.op = .makeSlice t x y) (hx : Operand.inB F.n x = true) (hy : Operand.inB F.n y = true) (hu : P.underlying t = some (.slice e)) {zs : List SV} {kl kc : IntKind} {l c : Int}
    (hxe : valE ρ x = some (.int kl l)) (hye : valE ρ y = some (.int kc c))
    (hz : zeroS P e = some zs) (hok : elemOk P e (P.cellsOf e) = true) (h0 : 0 ≤ l) (hlc : l ≤ c) (hcm : c ≤ 4294967296) :
    OpRes P F o a w (putE ρ o.dst (.lst (some e) (P.cellsOf e) (List.replicate l.toNat zs).flatten)) H := by
  obtain ⟨i, z, hi, hzz, hl, hc, hcr⟩ := zeroS_ok hz
  obtain ⟨i', z', hi', hz', hzs, hk, hk0, hby⟩ := elemOk_spec hok
  rw [hi] at hi'; cases hi'
  rw [hzz] at hz'; cases hz'
  rw [hc] at hk hk0 hok ⊢
  have hrx := valE_rep h hx hxe
  have hry := valE_rep h hy hye
  generalize hvx : a.eval x = vx at hrx
  generalize hvy : a.eval y = vy at hry
  cases hrx
  cases hry
  have hbytes : (i.bytes : Int) * c ≤ 281474976710656 := by
    have h1 : (i.bytes : Int) * c ≤ 4096 * c := Int.mul_le_mul_of_nonneg_right (by omega) (by omega)
    omega
  have hrun := run_make (P := P) w t e i z hu hi hzz kl kc l c h0 hlc hbytes (by omega)
  have hzc := zeros_ok (hcr w K β) (by omega) c.toNat
  have hzl := zeros_ok (hcr w K β) (by omega) l.toNat
  have hsz : z.cells.size = zs.length := by rw [hl, hzs]
  have hvl : ((Array.range (l.toNat * zs.length)).map (z.cells[· % z.cells.size]!)).toList.length = l.toNat * i.size := by simp [hl]
  have hfr := fresh_row (w := w) (w' := w.alloc (.cells (madeCells z.cells (c.toNat * i.size)) e)) (L := (madeCells z.cells (c.toNat * i.size)).toList)
    (vs := ((Array.range (l.toNat * zs.length)).map (z.cells[· % z.cells.size]!)).toList) (cs := (List.replicate l.toNat zs).flatten) (e := e) (k := i.size) (len := l.toNat) (cap := c.toNat) (B := F.mine) (q := some e)
    h.box h.kw (.inl h.hs) (by show w.heap.push _ = _; simp) rfl rfl rfl hk0 (by
      apply List.ext_getElem?
      intro j
      rw [List.getElem?_take]
      have hle : l.toNat * i.size ≤ c.toNat * i.size := Nat.mul_le_mul_right _ (by omega)
      by_cases hj : j < l.toNat * i.size
      · rw [if_pos (by rw [hvl]; exact hj)]
        simp [madeCells, hl, hj, Nat.lt_of_lt_of_le hj hle]
      · rw [if_neg (by rw [hvl]; exact hj), List.getElem?_eq_none (by rw [hvl]; omega)]) hvl hzl.len (by omega) (by simp [size_madeCells]) (by unfold maxLen; omega) hzl.one hzl.rep
  obtain ⟨g, b1, b2, b3, b4⟩ := hfr
  refine ⟨_, _, _, β, .inl ?_, put_fresh h g b1 b2 o.dst b3 b4 (fun i _ => Weak.refl _)⟩
  unfold execOp; rw [ho]
  show Sem.run P (do pure (Next.value (← Instr.makeSlice t (a.eval x) (a.eval y)))) w = _
  rw [hvx, hvy]
  exact run_value hrun

theorem op_sound (h : Inv F w K β H ρ a.tmps) (hb : Op.inB F.n o.op = true) {rest : List Oper} {s : SV} {ρ1 : Nat → SV} {H' : Heap} (hs : opEval P o rest ρ H = some (s, ρ1, H')) : OpRes P F o a w (putE ρ1 o.dst s) H' := by
  have hb' := hb
  unfold Op.inB at hb'
  rw [Array.all_eq_true_iff_forall_mem] at hb'
  have pure_case : (pureEval P o ρ H).map (fun s => (s, ρ, H)) = some (s, ρ1, H') → OpRes P F o a w (putE ρ1 o.dst s) H' := by
    intro hp
    cases hpe : pureEval P o ρ H with
    | none => rw [hpe] at hp; cases hp
    | some s0 =>
      rw [hpe] at hp; cases hp
      exact res_pure h (pure_sound h hb hpe)
  cases ho : o.op
  case move x =>
    simp only [opEval, ho] at hs
    cases hm : moveE P o (takenIn o.dst rest) ρ x with
    | none => rw [hm] at hs; cases hs
    | some r => rw [hm] at hs; cases hs; exact move_sound h (.inl ho) (hb' x (by simp [ho, Op.operands])) hm
  case assign x =>
    simp only [opEval, ho] at hs
    cases hm : moveE P o true ρ x with
    | none => rw [hm] at hs; cases hs
    | some r => rw [hm] at hs; cases hs; exact move_sound h (.inr ho) (hb' x (by simp [ho, Op.operands])) hm
  case extract x i =>
    simp only [opEval, ho] at hs
    cases hm : extractE ρ x i with
    | none => rw [hm] at hs; cases hs
    | some r => rw [hm] at hs; cases hs; exact extract_sound h ho (hb' x (by simp [ho, Op.operands])) hm
  case call c =>
    simp only [opEval, ho] at hs
    split at hs
    · rename_i hcal
      cases hm : appendE P c ρ with
      | none => rw [hm] at hs; cases hs
      | some r => rw [hm] at hs; cases hs; exact append_sound h ho hcal (fun x hx => hb' x (by simp [ho, Op.operands, Call.operands, hx])) hm
    · exact pure_case hs
  case box e x =>
    simp only [opEval, ho] at hs
    split at hs
    · rename_i cs hc; cases hs; exact box_sound h ho (hb' x (by simp [ho, Op.operands])) hc
    · cases hs
  case alloc t =>
    simp only [opEval, ho] at hs
    split at hs
    · rename_i cs hc; cases hs; exact alloc_sound h ho hc
    · cases hs
  case store t x y =>
    simp only [opEval, ho] at hs
    split at hs
    · rename_i sa sx hxe hye
      cases hm : storeE P t sa sx H with
      | none => rw [hm] at hs; cases hs
      | some H1 => rw [hm] at hs; cases hs; exact store_sound h ho (hb' x (by simp [ho, Op.operands])) (hb' y (by simp [ho, Op.operands])) hxe hye hm
    · cases hs
  case build t parts =>
    have hpb : ∀ p ∈ parts.toList, Operand.inB F.n p.2 = true := fun p hp => hb' p.2 (by simp only [ho, Op.operands, List.mem_toArray, List.mem_map]; exact ⟨p, hp, rfl⟩)
    simp only [opEval, ho] at hs
    cases hz : zeroS P t with
    | none => rw [hz] at hs; cases hs
    | some zs =>
      cases hp : placesOf P t with
      | some pl =>
        rw [hz, hp] at hs
        dsimp only at hs
        cases hm : fillS ρ (fun i => pl[i]?) zs parts.toList with
        | none => rw [hm] at hs; cases hs
        | some cs => rw [hm] at hs; cases hs; exact res_pure h (build_sound h ho hpb hz (.inl ⟨pl, hp, hm⟩))
      | none =>
        cases hk : elemCells P t with
        | none => rw [hz, hp, hk] at hs; cases hs
        | some k =>
          rw [hz, hp, hk] at hs
          dsimp only at hs
          cases hm : fillS ρ (fun i => some (i * k, k)) zs parts.toList with
          | none => rw [hm] at hs; cases hs
          | some cs => rw [hm] at hs; cases hs; exact res_pure h (build_sound h ho hpb hz (.inr ⟨k, hk, hm⟩))
  case buildSlice t len parts =>
    have hpb : ∀ p ∈ parts.toList, Operand.inB F.n p.2 = true := fun p hp => hb' p.2 (by simp only [ho, Op.operands, List.mem_toArray, List.mem_map]; exact ⟨p, hp, rfl⟩)
    simp only [opEval, ho] at hs
    split at hs
    · rename_i e hu
      split at hs
      · rename_i zs hz
        split at hs
        · rename_i hc
          cases hm : fillS ρ (fun i => some (i * P.cellsOf e, P.cellsOf e)) (List.replicate len zs).flatten parts.toList with
          | none => rw [hm] at hs; cases hs
          | some cs => rw [hm] at hs; cases hs; exact buildSlice_sound h ho hpb hu hz hc.1 hc.2 hm
        · cases hs
      · cases hs
    · cases hs
  case makeSlice t x y =>
    simp only [opEval, ho] at hs
    split at hs
    · rename_i e kl l kc c hu hxe hye
      split at hs
      · rename_i zs hz
        split at hs <;> cases hs
        rename_i hc
        exact makeSlice_sound h ho (hb' x (by simp [ho, Op.operands])) (hb' y (by simp [ho, Op.operands])) hu hxe hye hz hc.1 hc.2.1 hc.2.2.1 hc.2.2.2
      · cases hs
    · cases hs
  all_goals
    refine pure_case ?_
    simpa only [opEval, ho] using hs
end
end Go.Sx

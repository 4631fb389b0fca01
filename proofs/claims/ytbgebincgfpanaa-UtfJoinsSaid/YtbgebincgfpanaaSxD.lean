/-
  The shadow machine, part 4: the pure operations do what they say.
-/
import Derived.Test.YtbgebincgfpanaaSxC
namespace Go.Sx
open Go Go.RowKit

section
variable {P : Program} {F : Fr} {w : World} {K : Nat → Nat} {β : List Nat} {H : Heap} {ρ : Nat → SV} {a : Act} {o : Oper}

theorem pure_of_val {s : Sem Value} {r : Value} {c : SV} (he : execOp a.eval o = (do pure (Next.value (← s)))) (hr : s.run P w = .ok r w) (h : Rep w K β r c) (hf : ∀ p, flagAt c p = none) : PureOk P w K β o a c :=
  ⟨r, by rw [he]; exact run_value hr, h, hf⟩

theorem pure_of_good {s : Sem Value} {c : SV} (he : execOp a.eval o = (do pure (Next.value (← s)))) (h : Good P w K β s c) : PureOk P w K β o a c :=
  let ⟨_, hr, hrep, _, hf⟩ := h; pure_of_val he hr hrep hf

theorem rep_ep_row {v : Value} {cs : List SV} (h : Rep w K β v (.ep cs)) : ∃ b off vs, v = .pointer (some ⟨b, off, none⟩) ∧ RowAt w K β b off vs cs ∧ off + vs.length ≤ K b := by
  cases h with
  | ep b off vs _ hc hm hK h1 h => exact ⟨b, off, vs, rfl, ⟨hc, hm, h1, h⟩, hK⟩

theorem RowAt.ep {b off : Nat} {vs : List Value} {cs : List SV} (h : RowAt w K β b off vs cs) (hK : off + vs.length ≤ K b) : Rep w K β (.pointer (some ⟨b, off, none⟩)) (.ep cs) :=
  .ep b off vs cs h.len h.mem hK h.one h.rep

theorem rep_lst_row {v : Value} {q : Option TypeId} {k : Nat} {cs : List SV} (h : Rep w K β v (.lst q k cs)) :
    (∃ a cap, v = .slice a 0 cap ∧ cs = [] ∧ (v = .slice none 0 0 ∨ q = none)) ∨ ∃ b off len cap vs, v = .slice (some ⟨b, off, none⟩) len cap ∧ RowAt w K β b off vs cs ∧ off + vs.length ≤ K b ∧ 0 < k ∧ vs.length = len * k ∧ len ≤ cap := by
  cases h with
  | nil => exact .inl ⟨none, 0, rfl, rfl, .inl rfl⟩
  | emp _ a cap => exact .inl ⟨a, cap, rfl, rfl, .inr rfl⟩
  | lst _ _ b off len cap vs _ hk hl hc hcap hm hK h1 h => exact .inr ⟨b, off, len, cap, vs, rfl, ⟨hc, hm, h1, h⟩, hK, hk, hl, hcap⟩

theorem RowAt.lst {b off len cap k : Nat} {q : Option TypeId} {vs : List Value} {cs : List SV} (h : RowAt w K β b off vs cs) (hK : off + vs.length ≤ K b) (hk : 0 < k) (hl : vs.length = len * k) (hcap : len ≤ cap) :
    Rep w K β (.slice (some ⟨b, off, none⟩) len cap) (.lst q k cs) :=
  .lst q k b off len cap vs cs hk hl h.len hcap h.mem hK h.one h.rep

theorem cellsOf_info {t : TypeId} (h : 0 < P.cellsOf t) : ∃ i, P.info? t = some i ∧ i.size = P.cellsOf t := by
  cases hi : P.info? t with
  | none => simp [Program.cellsOf, hi] at h
  | some i => exact ⟨i, rfl, by simp [Program.cellsOf, hi]⟩

theorem run_sizeOf {t : TypeId} (h : 0 < P.cellsOf t) : (sizeOf t).run P w = .ok (P.cellsOf t) w := by
  obtain ⟨i, hi, hs⟩ := cellsOf_info h
  simp [sizeOf, typeInfo, hi, hs]

theorem RowAt.part {b off n k : Nat} {vs : List Value} {cs : List SV} (h : RowAt w K β b off vs cs) (hK : off + vs.length ≤ K b) (hle : n + k ≤ cs.length) :
    Rep w K β (.pointer (some ⟨b, off + n, none⟩)) (.ep ((cs.drop n).take k)) :=
  ((h.drop n).take k).ep (by
    have := h.len
    simp only [List.length_take, List.length_drop]
    omega)

theorem indexAddr_ok (h : Inv F w K β H ρ a.tmps) {t : TypeId} {x i : Operand} (ho : o.op = .indexAddr t x i) (hx : Operand.inB F.n x = true) (hi : Operand.inB F.n i = true) {s : SV}
    (hs : pureEval P o ρ H = some s) : PureOk P w K β o a s := by
  have he : execOp a.eval o = (do pure (Next.value (← Instr.indexAt t (a.eval x) (a.eval i)))) := by unfold execOp; rw [ho]
  simp only [pureEval, ho] at hs
  split at hs
  · rename_i e q k cs kk n hu hxe hie
    split at hs <;> try cases hs
    rename_i hk
    unfold idxE at hs
    split at hs <;> cases hs
    rename_i hc
    obtain ⟨hk1, hn, hle⟩ := hc
    have hrx := valE_rep h hx hxe
    have hri := valE_rep h hi hie
    generalize hvi : a.eval i = vi at hri
    cases hri
    rw [Nat.succ_mul] at hle
    rcases rep_lst_row hrx with ⟨ea, ecap, hv, hcs, _⟩ | ⟨b, off, len, cap, vs, hv, hrow, hK, hk0, hl, hcap⟩
    · subst hcs
      simp at hle; omega
    · have hlen : n < (len : Int) := by
        have h1 : n.toNat * k + k ≤ len * k := by rw [← hl, ← hrow.len]; exact hle
        rw [← Nat.succ_mul] at h1
        have := Nat.le_of_mul_le_mul_right h1 hk0
        omega
      subst hk
      refine pure_of_val he (r := .pointer (some ⟨b, off + n.toNat * P.cellsOf e, none⟩)) ?_ (hrow.part hK hle) (flag_ep _)
      rw [hv, hvi]
      simp [Instr.indexAt, asIntOf, run_underlying hu, run_sizeOf hk0, hn, hlen, add_lit]
  · rename_i len e cs kk n hu hxe hie
    split at hs <;> cases hs
    rename_i hc
    obtain ⟨hn, hlen, hle, hk0⟩ := hc
    have hrx := valE_rep h hx hxe
    have hri := valE_rep h hi hie
    generalize hvi : a.eval i = vi at hri
    cases hri
    rw [Nat.succ_mul] at hle
    obtain ⟨b, off, vs, hv, hrow, hK⟩ := rep_ep_row hrx
    refine pure_of_val he (r := .pointer (some ⟨b, off + n.toNat * P.cellsOf e, none⟩)) ?_ (hrow.part hK hle) (flag_ep _)
    rw [hv, hvi]
    simp [Instr.indexAt, Instr.sureAddr, asIntOf, run_underlying hu, run_sizeOf hk0, hn, hlen, add_lit]
  · rename_i len e bx off kk n hu hxe hie
    split at hs <;> cases hs
    rename_i hc
    obtain ⟨hn, hlen, hk0⟩ := hc
    have hrx := valE_rep h hx hxe
    have hri := valE_rep h hi hie
    generalize hvi : a.eval i = vi at hri
    cases hri
    generalize hvx : a.eval x = vx at hrx
    cases hrx with
    | ptr _ _ b hb =>
      refine pure_of_val he (r := .pointer (some ⟨b, off + n.toNat * P.cellsOf e, none⟩)) ?_ (.ptr _ _ _ hb) (flag_ptr _ _)
      rw [hvx, hvi]
      simp [Instr.indexAt, Instr.sureAddr, asIntOf, run_underlying hu, run_sizeOf hk0, hn, hlen, add_lit]
  · cases hs

theorem fieldAddr_ok (h : Inv F w K β H ρ a.tmps) {t : TypeId} {x : Operand} {f : Nat} (ho : o.op = .fieldAddr t x f) (hx : Operand.inB F.n x = true) {s : SV}
    (hs : pureEval P o ρ H = some s) : PureOk P w K β o a s := by
  have he : execOp a.eval o = (do pure (Next.value (← Instr.fieldAt t (a.eval x) f))) := by unfold execOp; rw [ho]
  simp only [pureEval, ho] at hs
  split at hs
  · rename_i fs hu
    split at hs
    · rename_i fd cs hf hxe
      split at hs <;> cases hs
      rename_i hc
      obtain ⟨hk0, hle⟩ := hc
      obtain ⟨b, off, vs, hv, hrow, hK⟩ := rep_ep_row (valE_rep h hx hxe)
      have hne : P.cellsOf fd.type ≠ 0 := by omega
      refine pure_of_val he (r := .pointer (some ⟨b, off + fd.offset, none⟩)) ?_ ((hrow.drop fd.offset).ep (by have := hrow.len; simp only [List.length_drop]; omega)) (flag_ep _)
      rw [hv]
      simp [Instr.fieldAt, Instr.sureAddr, run_underlying hu, hf, fieldPlace, run_sizeOf hk0, hne, add_lit]
    · rename_i fd bx off hf hxe
      split at hs <;> cases hs
      rename_i hk0
      have hrx := valE_rep h hx hxe
      generalize hvx : a.eval x = vx at hrx
      have hne : P.cellsOf fd.type ≠ 0 := by omega
      cases hrx with
      | ptr _ _ b hb =>
        refine pure_of_val he (r := .pointer (some ⟨b, off + fd.offset, none⟩)) ?_ (.ptr _ _ _ hb) (flag_ptr _ _)
        rw [hvx]
        simp [Instr.fieldAt, Instr.sureAddr, run_underlying hu, hf, fieldPlace, run_sizeOf hk0, hne, add_lit]
    · cases hs
  · cases hs

theorem load_ok (h : Inv F w K β H ρ a.tmps) {t : TypeId} {x : Operand} (ho : o.op = .load t x) (hx : Operand.inB F.n x = true) {s : SV}
    (hs : pureEval P o ρ H = some s) : PureOk P w K β o a s := by
  have he : execOp a.eval o = (do pure (Next.value (← Instr.loadAt t (a.eval x)))) := by unfold execOp; rw [ho]
  simp only [pureEval, ho] at hs
  split at hs
  · rename_i cs hxe
    obtain ⟨b, off, vs, hv, hrow, hK⟩ := rep_ep_row (valE_rep h hx hxe)
    obtain ⟨r, hr, hrep, hf⟩ := cellsVal_load (P := P) hrow hs
    exact pure_of_val he (by rw [hv]; simp [Instr.loadAt, Instr.sureAddr, hr]) hrep hf
  · rename_i bx off hxe
    split at hs
    · rename_i cs hb
      have hrx := valE_rep h hx hxe
      generalize hvx : a.eval x = vx at hrx
      cases hrx with
      | ptr _ _ b hbb =>
        obtain ⟨_, vs, e, hheap, hl, h1, hrep⟩ := h.box.2.2 bx b cs hbb hb
        have hrow : RowAt w K β b 0 vs cs := ⟨hl, fun j v hj => by rw [cell_of_row w b _ _ _ _ hheap]; simpa using hj, h1, hrep⟩
        have hrow' := hrow.drop off
        rw [Nat.zero_add] at hrow'
        obtain ⟨r, hr, hrep, hf⟩ := cellsVal_load (P := P) hrow' hs
        exact pure_of_val he (by rw [hvx]; simp [Instr.loadAt, Instr.sureAddr, hr]) hrep hf
    · cases hs
  · cases hs

theorem extract_ok (h : Inv F w K β H ρ a.tmps) {x : Operand} {i : Nat} (ho : o.op = .extract x i) (hx : Operand.inB F.n x = true) {s : SV}
    (hs : pureEval P o ρ H = some s) : PureOk P w K β o a s := by
  have he : execOp a.eval o = (do pure (Next.value (← Instr.extract (a.eval x) i))) := by unfold execOp; rw [ho]
  simp only [pureEval, ho] at hs
  split at hs
  · rename_i vs hxe
    split at hs <;> cases hs
    rename_i c hc
    have hrx := valE_rep h hx hxe
    generalize hvx : a.eval x = vx at hrx
    cases hrx with
    | tup ws _ hl hrep =>
      have hi : i < ws.length := by rw [← hl]; exact (List.getElem?_eq_some_iff.1 hc).1
      have hg : ws[i]? = some ws[i] := List.getElem?_eq_getElem hi
      exact pure_of_val he (r := ws[i]) (by rw [hvx]; simp [Instr.extract, hg]) (hrep i _ c hg hc).share (share_flag _)
  · cases hs

theorem cellsVal_part {t : TypeId} {off : Nat} {vs : List Value} {cs : List SV} {s : SV} (hl : cs.length = vs.length) (h1 : ∀ c ∈ cs, c.one = true)
    (h : ∀ (j : Nat) (v : Value) (c : SV), vs[j]? = some v → cs[j]? = some c → Rep w K β v c) (hv : cellsVal P t (cs.drop off) = some s) :
    ∃ r, (part t vs.toArray off).run P w = .ok r w ∧ Rep w K β r s ∧ (∀ p, flagAt s p = none) := by
  have hagg : (if P.cellsOf t ≤ (cs.drop off).length then some (SV.agg ((cs.drop off).take (P.cellsOf t))) else none) = some s → (isAgg t).run P w = .ok true w → P.underlying t ≠ none →
      ∃ r, (part t vs.toArray off).run P w = .ok r w ∧ Rep w K β r s ∧ (∀ p, flagAt s p = none) := by
    intro h1' h2 h3
    split at h1' <;> cases h1'
    rename_i hle
    obtain ⟨i, hi⟩ : ∃ i, P.info? t = some i := by
      cases hi : P.info? t with
      | none => exact absurd (by simp [Program.underlying, hi]) h3
      | some i => exact ⟨i, rfl⟩
    have hsz : P.cellsOf t = i.size := by simp [Program.cellsOf, hi]
    refine ⟨.agg ((vs.drop off).take (P.cellsOf t)).toArray, ?_, .agg _ _ (by simp [hl]) (fun c hc => h1 c (List.mem_of_mem_drop (List.mem_of_mem_take hc))) (fun j v c hv hc => ?_), flag_agg _⟩
    · simp only [part, Sem.run_bind, h2, Result.andThen_ok, if_true, sizeOf, typeInfo, run_program, hi, Sem.run_pure, ← hsz]
      congr 2
      apply Array.ext'
      simp [List.extract_eq_take_drop]
    · rw [List.getElem?_take] at hv hc
      by_cases hj : j < P.cellsOf t
      · rw [if_pos hj] at hv hc
        exact h (off + j) v c (by simpa using hv) (by simpa using hc)
      · rw [if_neg hj] at hv; cases hv
  unfold cellsVal at hv
  split at hv
  · rename_i fs hu
    exact hagg hv (by simp [isAgg, run_underlying hu]) (by simp [hu])
  · rename_i n e hu
    exact hagg hv (by simp [isAgg, run_underlying hu]) (by simp [hu])
  · rename_i d hns hna hu
    split at hv <;> cases hv
    rename_i c cs' hcs
    have hc : cs[off]? = some c := by
      have : (cs.drop off)[0]? = some c := by rw [hcs]; rfl
      simpa using this
    have hi : off < vs.length := by rw [← hl]; exact (List.getElem?_eq_some_iff.1 hc).1
    have hg : vs[off]? = some vs[off] := List.getElem?_eq_getElem hi
    refine ⟨vs[off], ?_, (h off _ c hg hc).share, share_flag _⟩
    have hia : (isAgg t).run P w = .ok false w := by
      simp only [isAgg, Sem.run_bind, run_underlying hu, Result.andThen_ok]
      cases d <;> first | rfl | exact (hns _ rfl).elim | exact (hna _ _ rfl).elim
    simp [part, hia, hg]
  · cases hv

theorem field_ok (h : Inv F w K β H ρ a.tmps) {t : TypeId} {x : Operand} {f : Nat} (ho : o.op = .field t x f) (hx : Operand.inB F.n x = true) {s : SV}
    (hs : pureEval P o ρ H = some s) : PureOk P w K β o a s := by
  have he : execOp a.eval o = (do pure (Next.value (← Instr.field t (a.eval x) f))) := by unfold execOp; rw [ho]
  simp only [pureEval, ho] at hs
  split at hs
  · rename_i fs hu
    split at hs
    · rename_i fd cs hf hxe
      have hrx := valE_rep h hx hxe
      generalize hvx : a.eval x = vx at hrx
      cases hrx with
      | agg vs _ hl h1 hrep =>
        obtain ⟨r, hr, hrep, hfl⟩ := cellsVal_part (P := P) hl h1 hrep hs
        exact pure_of_val he (by rw [hvx]; simp [Instr.field, run_underlying hu, hf, asAgg, hr]) hrep hfl
    · cases hs
  · cases hs

theorem index_ok (h : Inv F w K β H ρ a.tmps) {t : TypeId} {x i : Operand} (ho : o.op = .index t x i) (hx : Operand.inB F.n x = true) (hi : Operand.inB F.n i = true) {s : SV}
    (hs : pureEval P o ρ H = some s) : PureOk P w K β o a s := by
  have he : execOp a.eval o = (do pure (Next.value (← Instr.index t (a.eval x) (a.eval i)))) := by unfold execOp; rw [ho]
  simp only [pureEval, ho] at hs
  split at hs
  · rename_i l k n hu hxe hie
    have hrx := valE_rep h hx hxe
    have hri := valE_rep h hi hie
    generalize hvi : a.eval i = vi at hri
    cases hri
    generalize hvx : a.eval x = vx at hrx
    cases hrx with
    | str sb =>
      split at hs
      · rename_i hn
        split at hs <;> cases hs
        rename_i b hb
        refine pure_of_val he (r := .int .u8 b.toNat) ?_ (.int _ _) (flag_none_int _ _)
        rw [hvx, hvi]
        have hb' : sb[n.toNat]? = some b := by
          have hb2 : sb.data[n.toNat]? = some b := by simpa using hb
          obtain ⟨h1, h2⟩ := Array.getElem?_eq_some_iff.1 hb2
          rw [getElem?_pos sb n.toNat h1]
          exact congrArg some h2
        simp [Instr.index, asIntOf, run_underlying hu, hn, hb']
      · cases hs
  · rename_i len e cs k n hu hxe hie
    split at hs
    · rename_i hc
      obtain ⟨hn, hlen⟩ := hc
      have hrx := valE_rep h hx hxe
      have hri := valE_rep h hi hie
      generalize hvi : a.eval i = vi at hri
      cases hri
      generalize hvx : a.eval x = vx at hrx
      cases hrx with
      | agg vs _ hl h1 hrep =>
        obtain ⟨r, hr, hrep', hfl⟩ := cellsVal_part (P := P) hl h1 hrep hs
        have hsz : (sizeOf e).run P w = .ok (P.cellsOf e) w := by
          cases hi : P.info? e with
          | none =>
            have : P.underlying e = none := by simp [Program.underlying, hi]
            simp [cellsVal, this] at hs
          | some i => simp [sizeOf, typeInfo, hi, Program.cellsOf]
        exact pure_of_val he (by rw [hvx, hvi]; simp [Instr.index, asIntOf, run_underlying hu, hn, hlen, hsz, hr]) hrep' hfl
    · cases hs
  · cases hs

theorem len_ok (h : Inv F w K β H ρ a.tmps) {c : Call} (ho : o.op = .call c) (hx : ∀ x ∈ c.args, Operand.inB F.n x = true) {s : SV}
    (hs : pureEval P o ρ H = some s) : PureOk P w K β o a s := by
  simp only [pureEval, ho, callE] at hs
  split at hs
  · rename_i hcal
    split at hs
    · rename_i x t hargs htys
      have ha : c.args = #[x] := by rw [← Array.toList_inj]; exact hargs
      have ht : c.argTypes = #[t] := by rw [← Array.toList_inj]; exact htys
      have hrun : ∀ r, (Builtin.len_ #[t] o.type #[a.eval x]).run P w = .ok r w → (execOp a.eval o).run P w = .ok (.value r) w := fun r hr => by
        unfold execOp
        simp only [ho, resolve, hcal, ha, ht, invoke, builtin, Sem.run_bind, Sem.run_pure, Result.andThen_ok, List.map_toArray, List.map_cons, List.map_nil, hr]
      have hxb := hx x (by rw [ha]; simp)
      cases hxe : valE ρ x with
      | none => rw [hxe] at hs; cases hs
      | some s0 =>
        rw [hxe] at hs
        simp only [Option.bind_some, lenE] at hs
        have hrx := valE_rep h hxb hxe
        split at hs
        · rename_i e q k cs hu
          rcases rep_lst_row hrx with ⟨ea, ecap, hv, hcs, _⟩ | ⟨b, off, len, cap, vs, hv, hrow, hK, hk0, hl, hcap⟩
          · subst hcs
            have hs' : s = .int .i64 0 := by
              split at hs
              · cases hs; rfl
              · split at hs <;> cases hs; simp
            subst hs'
            exact ⟨.int .i64 0, hrun _ (by rw [hv]; simp [Builtin.len_, run_underlying hu, goInt]), .int _ _, flag_none_int _ _⟩
          · have hs' : s = .int .i64 len := by
              split at hs
              · rename_i hk; subst hk; cases hs; rw [hrow.len, hl, Nat.mul_one]
              · cases hs; rw [hrow.len, hl, Nat.mul_div_cancel _ hk0]
            subst hs'
            exact ⟨.int .i64 len, hrun _ (by rw [hv]; simp [Builtin.len_, run_underlying hu, goInt]), .int _ _, flag_none_int _ _⟩
        · rename_i l hu
          cases hs
          generalize hvx : a.eval x = vx at hrx
          cases hrx with
          | str sb => exact ⟨.int .i64 sb.size, hrun _ (by rw [hvx]; simp [Builtin.len_, run_underlying hu, goInt]), by simpa using Rep.int .i64 sb.size, flag_none_int _ _⟩
        · rename_i n e hu
          cases hs
          exact ⟨.int .i64 n, hrun _ (by simp [Builtin.len_, run_underlying hu, goInt]), .int _ _, flag_none_int _ _⟩
        · cases hs
    · cases hs
  · cases hs

theorem convert_ok (h : Inv F w K β H ρ a.tmps) {src dst : TypeId} {x : Operand} (ho : o.op = .convert src dst x) (hx : Operand.inB F.n x = true) {s : SV}
    (hs : pureEval P o ρ H = some s) : PureOk P w K β o a s := by
  have he : execOp a.eval o = (do pure (Next.value (← convert src dst (a.eval x)))) := by unfold execOp; rw [ho]
  simp only [pureEval, ho] at hs
  split at hs
  · rename_i d sv hsrc hxe
    have hrx := valE_rep h hx hxe
    unfold convSV at hs
    split at hs
    · rename_i k k' n hdst
      cases hs
      generalize hvx : a.eval x = vx at hrx
      cases hrx
      exact pure_of_val he (r := .int k (k.wrap n)) (by rw [hvx]; simp [convert, run_underlying hsrc, run_underlying hdst, Conv.intToInt]) (.int _ _) (flag_none_int _ _)
    · cases hs
  · cases hs

theorem unOp_ok (h : Inv F w K β H ρ a.tmps) {op : UnOp} {t : TypeId} {x : Operand} (ho : o.op = .unOp op t x) (hx : Operand.inB F.n x = true) {s : SV}
    (hs : pureEval P o ρ H = some s) : PureOk P w K β o a s := by
  have he : execOp a.eval o = (do pure (Next.value (← Op.unary op (a.eval x)))) := by unfold execOp; rw [ho]
  simp only [pureEval, ho] at hs
  split at hs
  · rename_i sv hxe
    have hrx := valE_rep h hx hxe
    unfold unSV at hs
    split at hs
    · cases hs
      generalize hvx : a.eval x = vx at hrx
      cases hrx
      exact pure_of_val he (by rw [hvx]; simp only [Op.unary, Op.intArith]; rfl) (.int _ _) (flag_none_int _ _)
    · cases hs
      generalize hvx : a.eval x = vx at hrx
      cases hrx
      exact pure_of_val he (by rw [hvx]; simp only [Op.unary, intBits_xor]; rfl) (.int _ _) (flag_none_int _ _)
    · cases hs
      generalize hvx : a.eval x = vx at hrx
      cases hrx
      exact pure_of_val he (by rw [hvx]; simp only [Op.unary]; rfl) (.bool _) (flag_none_bool _)
    · cases hs
  · cases hs

theorem binOp_ok (h : Inv F w K β H ρ a.tmps) {op : BinOp} {t u : TypeId} {x y : Operand} (ho : o.op = .binOp op t x y u) (hx : Operand.inB F.n x = true) (hy : Operand.inB F.n y = true) {s : SV}
    (hs : pureEval P o ρ H = some s) : PureOk P w K β o a s := by
  have he : execOp a.eval o = (do pure (Next.value (← (do eqGuard op t x y (a.eval x) (a.eval y); binOp op t (a.eval x) (a.eval y) : Sem Value)))) := by unfold execOp; rw [ho]
  simp only [pureEval, ho] at hs
  split at hs
  · rename_i sa sb hxe hye
    exact pure_of_good he (binSV_sound (valE_rep h hx hxe) (valE_rep h hy hye) hs)
  · cases hs

theorem move_ok (h : Inv F w K β H ρ a.tmps) {x : Operand} (ho : o.op = .move x ∨ o.op = .assign x) (hx : Operand.inB F.n x = true) {s : SV}
    (hs : pureEval P o ρ H = some s) : PureOk P w K β o a s := by
  have he : (execOp a.eval o).run P w = .ok (.value (a.eval x)) w := by unfold execOp; rcases ho with ho | ho <;> rw [ho] <;> rfl
  have hs' : (valE ρ x).map SV.share = some s := by rcases ho with ho | ho <;> simpa only [pureEval, ho] using hs
  cases hxe : valE ρ x with
  | none => rw [hxe] at hs'; cases hs'
  | some s0 =>
    rw [hxe] at hs'
    cases hs'
    exact ⟨_, he, (valE_rep h hx hxe).share, share_flag _⟩

theorem pick_ok (h : Inv F w K β H ρ a.tmps) {c x y : Operand} (ho : o.op = .pick c x y) (hc : Operand.inB F.n c = true) (hx : Operand.inB F.n x = true) (hy : Operand.inB F.n y = true) {s : SV}
    (hs : pureEval P o ρ H = some s) : PureOk P w K β o a s := by
  simp only [pureEval, ho] at hs
  have he : execOp a.eval o = (do pure (.value (if ← asBool (a.eval c) then a.eval x else a.eval y))) := by unfold execOp; rw [ho]
  split at hs
  · rename_i hce
    have hrc := valE_rep h hc hce
    generalize hvc : a.eval c = vc at hrc
    cases hrc
    cases hxe : valE ρ x with
    | none => rw [hxe] at hs; cases hs
    | some s0 =>
      rw [hxe] at hs; cases hs
      exact ⟨_, by rw [he, hvc]; simp [asBool], (valE_rep h hx hxe).share, share_flag _⟩
  · rename_i hce
    have hrc := valE_rep h hc hce
    generalize hvc : a.eval c = vc at hrc
    cases hrc
    cases hye : valE ρ y with
    | none => rw [hye] at hs; cases hs
    | some s0 =>
      rw [hye] at hs; cases hs
      exact ⟨_, by rw [he, hvc]; simp [asBool], (valE_rep h hy hye).share, share_flag _⟩
  · cases hs

theorem nilCheck_ok (h : Inv F w K β H ρ a.tmps) {x : Operand} (ho : o.op = .nilCheck x) (hx : Operand.inB F.n x = true) {s : SV}
    (hs : pureEval P o ρ H = some s) : PureOk P w K β o a s := by
  simp only [pureEval, ho] at hs
  have he : ∀ r, a.eval x = r → (match r with | .pointer (some _) => True | .func (.func _) _ _ => True | _ => False) → (execOp a.eval o).run P w = .ok (.value r) w := by
    intro r hr hm
    unfold execOp
    rw [ho]
    dsimp only
    rw [hr]
    split at hm
    · rfl
    · rfl
    · exact hm.elim
  split at hs
  · rename_i i off hxe
    cases hs
    have hrx := valE_rep h hx hxe
    generalize hvx : a.eval x = vx at hrx
    cases hrx with
    | ptr _ _ b hb => exact ⟨_, he _ hvx trivial, .ptr _ _ _ hb, flag_ptr _ _⟩
  · rename_i cs hxe
    cases hs
    have hrx := valE_rep h hx hxe
    generalize hvx : a.eval x = vx at hrx
    have hrx' := hrx
    cases hrx with
    | ep => exact ⟨_, he _ hvx trivial, hrx', flag_ep _⟩
  · rename_i f p q hxe
    cases hs
    have hrx := valE_rep h hx hxe
    generalize hvx : a.eval x = vx at hrx
    have hrx' := hrx
    cases hrx with
    | fn => exact ⟨_, he _ hvx trivial, hrx', flag_fn _ _ _⟩
  · cases hs

/-- The bounds of a slice expression, asked of shadow values. -/
theorem bound_ok (h : Inv F w K β H ρ a.tmps) {lo : Option Operand} {d n : Int} {y : Nat} {code : BoundsCode} (hx : ∀ x, lo = some x → Operand.inB F.n x = true)
    (hl : boundE ρ lo d = some n) (h0 : 0 ≤ n) (h1 : n ≤ y) :
    (lo = none ∧ n = d) ∨ ∃ l, lo = some l ∧ (Instr.sliceBound (a.eval l) y code).run P w = .ok n.toNat w := by
  cases lo with
  | none => simp [boundE] at hl; exact .inl ⟨rfl, hl.symm⟩
  | some l =>
    right
    refine ⟨l, rfl, ?_⟩
    simp only [boundE] at hl
    split at hl <;> cases hl
    rename_i k hle
    have hr := valE_rep h (hx l rfl) hle
    generalize hvl : a.eval l = vl at hr
    cases hr
    simp [Instr.sliceBound, asIntOf, h0, h1]

theorem slice_ok (h : Inv F w K β H ρ a.tmps) {t : TypeId} {x : Operand} {lo hi mx : Option Operand} (ho : o.op = .slice t x lo hi mx) (hx : Operand.inB F.n x = true)
    (hlo : ∀ x, lo = some x → Operand.inB F.n x = true) (hhi : ∀ x, hi = some x → Operand.inB F.n x = true) {s : SV}
    (hs : pureEval P o ρ H = some s) : PureOk P w K β o a s := by
  have he : execOp a.eval o = (do pure (Next.value (← Instr.sliceAt t (a.eval x) (lo.map a.eval) (hi.map a.eval) (mx.map a.eval)))) := by unfold execOp; rw [ho]
  simp only [pureEval, ho] at hs
  split at hs
  · rename_i e q k cs hu hxe
    split at hs
    · rename_i l hh hle hhe
      split at hs <;> try cases hs
      rename_i hk
      unfold sliceE at hs
      split at hs <;> cases hs
      rename_i hc
      obtain ⟨hk0, hl0, hlh, hle'⟩ := hc
      have hrx := valE_rep h hx hxe
      have hsz : (sizeOf e).run P w = .ok k w := by rw [hk]; exact run_sizeOf (by rw [← hk]; exact hk0)
      have bounds : ∀ len cap : Nat, len ≤ cap → cs.length = len * k → (Instr.sliceBounds true len cap (lo.map a.eval) (hi.map a.eval) none).run P w = .ok (l.toNat, hh.toNat, cap) w := by
        intro len cap hlc hcl
        have hhl : hh.toNat ≤ len := by rw [hcl] at hle'; exact Nat.le_of_mul_le_mul_right hle' hk0
        have b1 := bound_ok (P := P) (code := .sliceAcap) h hhi hhe (by omega) (show hh ≤ (cap : Int) by omega)
        have b2 := bound_ok (P := P) (code := .sliceB) (y := hh.toNat) h hlo hle hl0 (by omega)
        have hdl : (cs.length / k : Nat) = len := by rw [hcl, Nat.mul_div_cancel _ hk0]
        rcases b1 with ⟨rfl, e1⟩ | ⟨y1, rfl, e1⟩ <;> rcases b2 with ⟨rfl, e2⟩ | ⟨y2, rfl, e2⟩
        · rw [hdl] at e1; subst e1; subst e2; simp [Instr.sliceBounds]
        · rw [hdl] at e1; subst e1; simp at e2; simp [Instr.sliceBounds, e2]
        · subst e2; simp [Instr.sliceBounds, e1]
        · simp [Instr.sliceBounds, e1, e2]
      rcases rep_lst_row hrx with ⟨ea, ecap, hv, hcs, _⟩ | ⟨b, off, len, cap, vs, hv, hrow, hK, _, hl, hcap⟩
      · subst hcs
        have hb := bounds 0 ecap (Nat.zero_le _) (by simp)
        have h0 : hh.toNat = 0 := by
          rcases Nat.eq_zero_or_pos hh.toNat with h0 | h0
          · exact h0
          · have := Nat.mul_pos h0 hk0; simp at hle'; omega
        have h0' : l.toNat = 0 := by omega
        refine pure_of_val he (r := .slice ea 0 ecap) ?_ (by simpa using Rep.emp k ea ecap) (flag_lst _ _)
        rw [hv]
        have hadd : ea.map (fun x => x.add (0 * k)) = ea := by cases ea <;> simp [Addr.add]
        have hadd' : ea.map (fun x => x.add 0) = ea := by cases ea <;> simp [Addr.add]
        simp [Instr.sliceAt, Instr.slice, run_underlying hu, hb, hsz, h0, h0', hadd']
      · have hb := bounds len cap hcap (by rw [hrow.len, hl])
        have hhl : hh.toNat ≤ len := by rw [hrow.len, hl] at hle'; exact Nat.le_of_mul_le_mul_right hle' hk0
        have hlk : l.toNat * k ≤ hh.toNat * k := Nat.mul_le_mul_right k (by omega)
        have hrow' := (hrow.take (hh.toNat * k)).drop (l.toNat * k)
        have hvl : ((vs.take (hh.toNat * k)).drop (l.toNat * k)).length = (hh.toNat - l.toNat) * k := by
          rw [hrow.len] at hle'
          simp only [List.length_drop, List.length_take, Nat.sub_mul]; omega
        have hcl : (hh.toNat - l.toNat) ≤ cap - l.toNat := by omega
        have hvs : hh.toNat * k ≤ vs.length := by rw [← hrow.len]; exact hle'
        by_cases hml : cap = l.toNat
        · have hz : (hh.toNat - l.toNat) = 0 := by omega
          have hnil : (cs.take (hh.toNat * k)).drop (l.toNat * k) = [] := by
            apply List.eq_nil_of_length_eq_zero
            rw [hrow'.len, hvl, hz, Nat.zero_mul]
          refine pure_of_val he (r := .slice (some ⟨b, off, none⟩) (hh.toNat - l.toNat) (cap - l.toNat)) ?_ ?_ (flag_lst _ _)
          · rw [hv]
            subst hml
            simp [Instr.sliceAt, Instr.slice, run_underlying hu, hb, hsz]
          · rw [hnil, hz]
            exact RowAt.lst (vs := []) ⟨rfl, fun j v e => by simp at e, fun c e => by simp at e, fun j v c e => by simp at e⟩ (by simp; omega) hk0 (by simp) (Nat.zero_le _)
        · refine pure_of_val he (r := .slice (some ⟨b, off + l.toNat * k, none⟩) (hh.toNat - l.toNat) (cap - l.toNat)) ?_ (hrow'.lst (by rw [hvl, Nat.sub_mul]; omega) hk0 hvl hcl) (flag_lst _ _)
          rw [hv]
          simp [Instr.sliceAt, Instr.slice, run_underlying hu, hb, hsz, hml, add_lit]
    · cases hs
  · rename_i l0 hu hxe
    split at hs
    · rename_i l hh hle hhe
      split at hs <;> cases hs
      rename_i hc
      obtain ⟨hl0, hlh, hle'⟩ := hc
      have hrx := valE_rep h hx hxe
      generalize hvx : a.eval x = vx at hrx
      cases hrx with
      | str sb =>
        have hsl : hh.toNat ≤ sb.size := by simpa using hle'
        have b1 := bound_ok (P := P) (code := .sliceAlen) h hhi hhe (by omega) (show hh ≤ (sb.size : Int) by omega)
        have b2 := bound_ok (P := P) (code := .sliceB) (y := hh.toNat) h hlo hle hl0 (by omega)
        have hb : (Instr.sliceBounds false sb.size sb.size (lo.map a.eval) (hi.map a.eval) none).run P w = .ok (l.toNat, hh.toNat, sb.size) w := by
          rcases b1 with ⟨rfl, e1⟩ | ⟨y1, rfl, e1⟩ <;> rcases b2 with ⟨rfl, e2⟩ | ⟨y2, rfl, e2⟩
          · subst e1; subst e2; simp [Instr.sliceBounds]
          · subst e1; simp at e2; simp [Instr.sliceBounds, e2]
          · subst e2; simp [Instr.sliceBounds, e1]
          · simp [Instr.sliceBounds, e1, e2]
        have hex : (sb.extract l.toNat hh.toNat).data.toList = (sb.data.toList.take hh.toNat).drop l.toNat := by
          simp [ByteArray.data_extract, List.extract_eq_take_drop, List.drop_take]
        refine pure_of_val he (r := .string (sb.extract l.toNat hh.toNat)) ?_ (by rw [← hex]; exact .str _) (flag_none_str _)
        rw [hvx]
        simp [Instr.sliceAt, Instr.slice, run_underlying hu, hb]
    · cases hs
  · cases hs

theorem makeFunc_ok (h : Inv F w K β H ρ a.tmps) {fn : Fn} {first captured : Array Operand} (ho : o.op = .makeFunc fn first captured)
    (hx : ∀ x ∈ first, Operand.inB F.n x = true) (hy : ∀ x ∈ captured, Operand.inB F.n x = true) {s : SV}
    (hs : pureEval P o ρ H = some s) : PureOk P w K β o a s := by
  have he : execOp a.eval o = (do pure (Next.value (← Instr.makeFunc fn (first.map a.eval) (captured.map a.eval)))) := by unfold execOp; rw [ho]
  simp only [pureEval, ho] at hs
  have key : ∀ (l : List Operand) (r : List SV), (∀ x ∈ l, Operand.inB F.n x = true) → l.mapM (valE ρ) = some r → r.length = (l.map a.eval).length ∧
      ∀ (j : Nat) (v : Value) (c : SV), (l.map a.eval)[j]? = some v → r[j]? = some c → Rep w K β v c := by
    intro l
    induction l with
    | nil => intro r _ hr; simp at hr; subst hr; exact ⟨rfl, fun j v c e => by simp at e⟩
    | cons x l ih =>
      intro r hb hr
      simp only [List.mapM_cons] at hr
      cases hx1 : valE ρ x with
      | none => rw [hx1] at hr; cases hr
      | some s1 =>
        rw [hx1] at hr
        cases hr1 : l.mapM (valE ρ) with
        | none => rw [hr1] at hr; cases hr
        | some r1 =>
          rw [hr1] at hr
          cases hr
          obtain ⟨i1, i2⟩ := ih r1 (fun y hy => hb y (List.mem_cons_of_mem _ hy)) hr1
          refine ⟨by simp [i1], fun j v c hv hc => ?_⟩
          cases j with
          | zero => simp at hv hc; subst hv; subst hc; exact valE_rep h (hb x (List.mem_cons_self ..)) hx1
          | succ j => exact i2 j v c (by simpa using hv) (by simpa using hc)
  split at hs
  · rename_i p q hp hq
    cases hs
    obtain ⟨p1, p2⟩ := key _ _ (fun x hm => hx x (Array.mem_toList_iff.1 hm)) hp
    obtain ⟨q1, q2⟩ := key _ _ (fun x hm => hy x (Array.mem_toList_iff.1 hm)) hq
    refine pure_of_val he (r := .func fn (first.map a.eval) (captured.map a.eval)) rfl ?_ (flag_fn _ _ _)
    have := Rep.fn (w := w) (K := K) (β := β) fn (first.toList.map a.eval) (captured.toList.map a.eval) p q p1 q1 p2 q2
    rw [show first.map a.eval = (first.toList.map a.eval).toArray from by apply Array.ext'; simp, show captured.map a.eval = (captured.toList.map a.eval).toArray from by apply Array.ext'; simp]
    exact this
  · cases hs

def Op.inB (n : Nat) (o : Op) : Bool := o.operands.all (Operand.inB n)

theorem pure_sound (h : Inv F w K β H ρ a.tmps) (hb : Op.inB F.n o.op = true) {s : SV} (hs : pureEval P o ρ H = some s) : PureOk P w K β o a s := by
  unfold Op.inB at hb
  rw [Array.all_eq_true_iff_forall_mem] at hb
  cases ho : o.op
  case move x => exact move_ok h (.inl ho) (hb x (by simp [ho, Op.operands])) hs
  case assign x => exact move_ok h (.inr ho) (hb x (by simp [ho, Op.operands])) hs
  case pick c x y => exact pick_ok h ho (hb c (by simp [ho, Op.operands])) (hb x (by simp [ho, Op.operands])) (hb y (by simp [ho, Op.operands])) hs
  case binOp op t x y u => exact binOp_ok h ho (hb x (by simp [ho, Op.operands])) (hb y (by simp [ho, Op.operands])) hs
  case unOp op t x => exact unOp_ok h ho (hb x (by simp [ho, Op.operands])) hs
  case convert s d x => exact convert_ok h ho (hb x (by simp [ho, Op.operands])) hs
  case extract x i => exact extract_ok h ho (hb x (by simp [ho, Op.operands])) hs
  case nilCheck x => exact nilCheck_ok h ho (hb x (by simp [ho, Op.operands])) hs
  case indexAddr t x i => exact indexAddr_ok h ho (hb x (by simp [ho, Op.operands])) (hb i (by simp [ho, Op.operands])) hs
  case index t x i => exact index_ok h ho (hb x (by simp [ho, Op.operands])) (hb i (by simp [ho, Op.operands])) hs
  case fieldAddr t x f => exact fieldAddr_ok h ho (hb x (by simp [ho, Op.operands])) hs
  case field t x f => exact field_ok h ho (hb x (by simp [ho, Op.operands])) hs
  case load t x => exact load_ok h ho (hb x (by simp [ho, Op.operands])) hs
  case slice t x lo hi mx =>
    exact slice_ok h ho (hb x (by simp [ho, Op.operands])) (fun y hy => hb y (by subst hy; simp [ho, Op.operands])) (fun y hy => hb y (by subst hy; simp [ho, Op.operands])) hs
  case makeFunc f p q => exact makeFunc_ok h ho (fun x hm => hb x (by simp [ho, Op.operands, hm])) (fun x hm => hb x (by simp [ho, Op.operands, hm])) hs
  case call c => exact len_ok h ho (fun x hm => hb x (by simp [ho, Op.operands, Call.operands, hm])) hs
  all_goals (simp only [pureEval, ho] at hs; cases hs)
end
end Go.Sx

/-
  The shadow machine, part 13: from a function's body to its contract.
-/
import Derived.Test.YtbgebincgfpanaaSxL
namespace Go.Sx
open Go Go.RowKit

/-- What the result variables hold. -/
def resE1 (P : Program) (ρ : Env) (H : Heap) : ResultVar → Option SV
  | .tmp t => some (ρ t)
  | .cell t ty => match ρ t with
    | .ptr b off => match H[b]? with
      | some cs => cellsVal P ty (cs.drop off)
      | none => none
    | _ => none

def retE (P : Program) (rs : List ResultVar) (ρ : Env) (H : Heap) : Option SV :=
  match rs with
  | [r] => resE1 P ρ H r
  | rs => (rs.mapM (resE1 P ρ H)).map .tup

def resTmps : List ResultVar → List Nat
  | [] => []
  | .tmp t :: rs => t :: resTmps rs
  | .cell t _ :: rs => t :: resTmps rs

def resIn (n : Nat) (rs : List ResultVar) : Bool := (resTmps rs).all (fun t => decide (t < n)) && decide (resTmps rs).Nodup

/-- The boxes that are handed back: all, or the first of them where nothing points to the rest. -/
def Drops (m : Nat) (H1 : Heap) (v : SV) (H' : Heap) : Prop := H1 = H' ∨ (m ≤ H'.length ∧ (∃ ex, H1 = H' ++ ex) ∧ SV.ptrsIn H'.length v ∧ ∀ cs ∈ H', ptrsInL H'.length cs)

def initE (args : List SV) : Env := fun i => (args[i]?).getD (.tup [])

/-- What is left to show of a function's body. -/
def retS (P : Program) (rs : List ResultVar) (m : Nat) (v : SV) (H' : Heap) : Exit → Env → Heap → Prop
  | .normal, ρ, H => retE P rs ρ H = some v ∧ Drops m H v H'
  | .ret, ρ, H => retE P rs ρ H = some v ∧ Drops m H v H'
  | _, _, _ => False

def resRun (tm : Array Value) (r : ResultVar) : Sem Value :=
  match r with
  | .tmp t => pure (tm.getD t undef)
  | .cell a t => do loadVar t (← asAddr (tm.getD a undef))

theorem results_eq (fn : Func) (tm : Array Value) : results fn tm = (do
    let vs ← fn.results.mapM (resRun tm)
    pure (if h : vs.size = 1 then vs[0] else .tuple vs)) := rfl

section
variable {P : Program} {F : Fr} {w : World} {K : Nat → Nat} {β : List Nat} {H : Heap} {ρ : Env} {tm : Array Value}

/-- Where a result's right to append comes from: a slot's. -/
theorem res1_ok (h : Inv F w K β H ρ tm) {r : ResultVar} {s : SV} (ht : ∀ t ∈ resTmps [r], t < F.n) (hs : resE1 P ρ H r = some s) :
    ∃ v, (resRun tm r).run P w = .ok v w ∧ Rep w K β v s ∧
      ∀ p y, flagAt s p = some y → ∃ t, resTmps [r] = [t] ∧ v = tm.getD t undef ∧ s = ρ t := by
  cases r with
  | tmp t =>
    simp only [resE1] at hs
    cases hs
    exact ⟨_, rfl, h.rep t (ht t (by simp [resTmps])), fun p y _ => ⟨t, rfl, rfl, rfl⟩⟩
  | cell t ty =>
    simp only [resE1] at hs
    have htn := ht t (by simp [resTmps])
    split at hs
    · rename_i b off hv
      split at hs
      · rename_i cs hcs
        have hr := h.rep t htn
        rw [hv] at hr
        generalize hvx : tm.getD t undef = vx at hr
        cases hr with
        | ptr _ _ bb hbb =>
          obtain ⟨_, vs, e, hheap, hl, h1, hrep⟩ := h.box.2.2 b bb cs hbb hcs
          have hrow : RowAt w K β bb 0 vs cs := ⟨hl, fun j v hj => by rw [cell_of_row w bb _ _ _ _ hheap]; simpa using hj, h1, hrep⟩
          have hrow' := hrow.drop off
          rw [Nat.zero_add] at hrow'
          obtain ⟨v, hrun, hrep', hf⟩ := cellsVal_load (P := P) hrow' hs
          refine ⟨v, ?_, hrep', fun p y e => by rw [hf p] at e; cases e⟩
          simp only [resRun, hvx]
          simp [asAddr, hrun]
      · cases hs
    · cases hs

theorem resList_ok (h : Inv F w K β H ρ tm) : ∀ (rs : List ResultVar) (vs : List SV), (∀ t ∈ resTmps rs, t < F.n) → rs.mapM (resE1 P ρ H) = some vs →
    ∃ us, (rs.mapM (resRun tm)).run P w = .ok us w ∧ us.length = vs.length ∧ vs.length = (resTmps rs).length ∧
      (∀ (j : Nat) (v : Value) (c : SV), us[j]? = some v → vs[j]? = some c → Rep w K β v c) ∧
      ∀ (j : Nat) (v : Value) (c : SV) p y, us[j]? = some v → vs[j]? = some c → flagAt c p = some y → ∃ t, (resTmps rs)[j]? = some t ∧ v = tm.getD t undef ∧ c = ρ t := by
  intro rs
  induction rs with
  | nil => intro vs _ hv; simp at hv; subst hv; exact ⟨[], rfl, rfl, rfl, fun j v c e => by simp at e, fun j v c p y e => by simp at e⟩
  | cons r rs ih =>
    intro vs ht hv
    have htl : resTmps (r :: rs) = resTmps [r] ++ resTmps rs := by cases r <;> rfl
    simp only [List.mapM_cons] at hv
    cases h1 : resE1 P ρ H r with
    | none => rw [h1] at hv; cases hv
    | some s =>
      rw [h1] at hv
      cases h2 : rs.mapM (resE1 P ρ H) with
      | none => rw [h2] at hv; cases hv
      | some ss =>
        rw [h2] at hv
        cases hv
        obtain ⟨u, hu1, hu2, hu3⟩ := res1_ok (P := P) h (r := r) (fun t hm => ht t (by rw [htl]; exact List.mem_append.2 (.inl hm))) h1
        obtain ⟨us, i1, i2, i3, i4, i5⟩ := ih ss (fun t hm => ht t (by rw [htl]; exact List.mem_append.2 (.inr hm))) h2
        have hl1 : (resTmps [r]).length = 1 := by cases r <;> rfl
        refine ⟨u :: us, ?_, by simp [i2], by rw [htl]; simp [i3, hl1]; omega, fun j v c hv hc => ?_, fun j v c p y hv hc hf => ?_⟩
        · simp only [List.mapM_cons, Sem.run_bind, hu1, Result.andThen_ok, i1, Sem.run_pure]
        · cases j with
          | zero => simp at hv hc; subst hv; subst hc; exact hu2
          | succ j => exact i4 j v c (by simpa using hv) (by simpa using hc)
        · rw [htl]
          cases j with
          | zero =>
            simp at hv hc; subst hv; subst hc
            obtain ⟨t, e1, e2, e3⟩ := hu3 p y hf
            exact ⟨t, by rw [e1]; rfl, e2, e3⟩
          | succ j =>
            obtain ⟨t, e1, e2, e3⟩ := i5 j v c p y (by simpa using hv) (by simpa using hc) hf
            exact ⟨t, by rw [List.getElem?_append_right (by omega), hl1]; simpa using e1, e2, e3⟩

theorem ret_ok (h : Inv F w K β H ρ tm) {fn : Func} (hin : resIn F.n fn.results.toList = true) {v : SV} (hv : retE P fn.results.toList ρ H = some v) :
    ∃ r, (results fn tm).run P w = .ok r w ∧ Rep w K β r v ∧ ResOwn w K β F.mine r v := by
  simp only [resIn, Bool.and_eq_true, List.all_eq_true, decide_eq_true_eq] at hin
  obtain ⟨hlt, hnd⟩ := hin
  have hres : ∀ us, (fn.results.toList.mapM (resRun tm)).run P w = .ok us w →
      (results fn tm).run P w = .ok (if h : us.toArray.size = 1 then us.toArray[0] else .tuple us.toArray) w := by
    intro us hus
    rw [results_eq, Array.mapM_eq_mapM_toList]
    simp [hus]
  unfold retE at hv
  split at hv
  · rename_i rr hrs
    rw [hrs] at hres hlt hnd
    have hm : [rr].mapM (resE1 P ρ H) = some [v] := by simp [hv]
    obtain ⟨us, h1, h2, h3, h4, h5⟩ := resList_ok (P := P) h [rr] [v] hlt hm
    cases us with
    | nil => simp at h2
    | cons u us =>
      have hus : us = [] := List.eq_nil_of_length_eq_zero (by simpa using h2)
      subst hus
      refine ⟨u, by have := hres _ h1; simpa using this, h4 0 u v rfl rfl, ⟨fun p y hf => ?_, fun p p' y y' b hf hf' hb hb' => ?_⟩⟩
      · obtain ⟨t, e1, e2, e3⟩ := h5 0 u v p y rfl rfl hf
        have htn := hlt t (List.mem_of_getElem? e1)
        rw [e2]; rw [e3] at hf
        exact h.own t p y htn hf
      · obtain ⟨t, e1, e2, e3⟩ := h5 0 u v p y rfl rfl hf
        have htn := hlt t (List.mem_of_getElem? e1)
        rw [e2] at hb hb'; rw [e3] at hf hf'
        exact (h.dis t p t p' y y' b htn htn hf hf' hb hb').2
  · rename_i hne
    cases hm : fn.results.toList.mapM (resE1 P ρ H) with
    | none => rw [hm] at hv; cases hv
    | some vs =>
      rw [hm] at hv
      cases hv
      obtain ⟨us, h1, h2, h3, h4, h5⟩ := resList_ok (P := P) h _ vs hlt hm
      have hn1 : us.length ≠ 1 := by
        intro he
        have hl : (resTmps fn.results.toList).length = 1 := by omega
        have hll : ∀ rs : List ResultVar, (resTmps rs).length = rs.length := by
          intro rs
          induction rs with
          | nil => rfl
          | cons r rs ih => cases r <;> simp [resTmps, ih]
        rw [hll] at hl
        obtain ⟨x, hx⟩ := List.length_eq_one_iff.1 hl
        exact hne x hx
      have hva : ∀ j u, us[j]? = some u → valAt (.tuple us.toArray) (some j) = u := by
        intro j u hu
        obtain ⟨p1, p2⟩ := List.getElem?_eq_some_iff.1 hu
        simp [valAt, p1, p2]
      have hpart : ∀ p y, flagAt (.tup vs) p = some y → ∃ j u t, p = some j ∧ us[j]? = some u ∧ (resTmps fn.results.toList)[j]? = some t ∧ u = tm.getD t undef ∧ flagAt (ρ t) none = some y := by
        intro p y hf
        cases p with
        | none => cases hf
        | some j =>
          simp only [flagAt] at hf
          split at hf
          · rename_i e k cs hc
            cases hf
            have hjl : j < us.length := by rw [h2]; exact (List.getElem?_eq_some_iff.1 hc).1
            obtain ⟨t, e1, e2, e3⟩ := h5 j us[j] _ none (e, k) (List.getElem?_eq_getElem hjl) hc rfl
            exact ⟨j, us[j], t, rfl, List.getElem?_eq_getElem hjl, e1, e2, by rw [← e3]; rfl⟩
          · cases hf
      refine ⟨.tuple us.toArray, by have := hres _ h1; rw [dif_neg (by simpa using hn1)] at this; exact this, .tup us vs h2.symm h4, ⟨fun p y hf => ?_, fun p p' y y' b hf hf' hb hb' => ?_⟩⟩
      · obtain ⟨j, u, t, rfl, hu, e1, e2, e3⟩ := hpart p y hf
        rw [hva j u hu, e2]
        exact h.own t none y (hlt t (List.mem_of_getElem? e1)) e3
      · obtain ⟨j, u, t, rfl, hu, e1, e2, e3⟩ := hpart p y hf
        obtain ⟨j', u', t', rfl, hu', e1', e2', e3'⟩ := hpart p' y' hf'
        rw [hva j u hu, e2] at hb
        rw [hva j' u' hu', e2'] at hb'
        obtain ⟨htt, _⟩ := h.dis t none t' none y y' b (hlt t (List.mem_of_getElem? e1)) (hlt t' (List.mem_of_getElem? e1')) e3 e3' hb hb'
        subst htt
        obtain ⟨p1, q1⟩ := List.getElem?_eq_some_iff.1 e1
        obtain ⟨p2, q2⟩ := List.getElem?_eq_some_iff.1 e1'
        congr 1
        exact (List.getElem_inj hnd).1 (q1.trans q2.symm)
end

def flagless : SV → Bool
  | .lst (some _) _ _ => false
  | .tup _ => false
  | _ => true

/-- No argument but the first bears a right to append. -/
def argsOk : List SV → Bool
  | .lst _ _ _ :: r => r.all flagless
  | r => r.all flagless

theorem flagless_spec {s : SV} (h : flagless s = true) (p : Option Nat) : flagAt s p = none := by
  cases s with
  | lst q k cs =>
    cases q with
    | none => exact flag_lst _ _ _
    | some e => cases h
  | tup => cases h
  | _ => cases p <;> rfl

theorem argsOk_spec {args : List SV} (h : argsOk args = true) : ∀ (j : Nat) s p y, args[j]? = some s → flagAt s p = some y → j = 0 ∧ p = none := by
  intro j s p y hs hf
  have hall : ∀ r : List SV, r.all flagless = true → ∀ s ∈ r, flagAt s p ≠ some y := fun r hr s hm he => by
    rw [flagless_spec (List.all_eq_true.1 hr s hm) p] at he; cases he
  have other : args.all flagless = true → j = 0 ∧ p = none := fun hr => (hall _ hr s (List.mem_of_getElem? hs) hf).elim
  cases args with
  | nil => simp at hs
  | cons a r =>
    cases a with
    | lst q k cs =>
      have hr : r.all flagless = true := h
      cases j with
      | zero =>
        simp at hs; subst hs
        exact ⟨rfl, flag_lst_top hf⟩
      | succ j => exact (hall r hr s (List.mem_of_getElem? (by simpa using hs)) hf).elim
    | _ => exact other h

/-- FROM A FUNCTION's BODY TO ITS CONTRACT. -/
theorem SC_of_code {P : Program} (hm : P.follows .mixedOrders = true) {f : FuncId} {fn : Func} {c : Code} (hf : P.funcs[f]? = some fn) (hb : fn.body = some c) (hcal : callable P f = true) (hin : codeIn fn.ntmps c = true) (hres : resIn fn.ntmps fn.results.toList = true)
    {args : List SV} {H : Heap} {v : SV} {H' : Heap} (hn : args.length ≤ fn.ntmps) (hao : argsOk args = true)
    (h : codeW P c (retS P fn.results.toList H.length v H') (initE args) H) : SC P f args H v H' := by
  have hfl := argsOk_spec hao
  refine ⟨hcal, fun w K β vals hl hrep hgr hbox hkw => ?_⟩
  let F : Fr := ⟨fn.ntmps, w, K, β, xOf args vals⟩
  have hinit : Inv F w K β H (initE args) (vals.toArray ++ Array.replicate (fn.ntmps - vals.toArray.size) undef) := by
    have hsz : (vals.toArray ++ Array.replicate (fn.ntmps - vals.toArray.size) undef).size = fn.ntmps := by simp; omega
    have hval : ∀ i, i < fn.ntmps → (i < args.length → ∃ x, vals[i]? = some x ∧ (vals.toArray ++ Array.replicate (fn.ntmps - vals.toArray.size) undef).getD i undef = x) ∧
        (¬ i < args.length → (vals.toArray ++ Array.replicate (fn.ntmps - vals.toArray.size) undef).getD i undef = undef) := by
      intro i hi
      refine ⟨fun hia => ?_, fun hia => ?_⟩
      · have hiv : i < vals.length := by omega
        refine ⟨vals[i], List.getElem?_eq_getElem hiv, ?_⟩
        rw [Array.getD_eq_getD_getElem?, Array.getElem?_append_left (by simpa using hiv)]
        simp [hiv]
      · rw [Array.getD_eq_getD_getElem?, Array.getElem?_append_right (by simp; omega)]
        simp only [Array.getElem?_replicate]
        split <;> rfl
    have hfl0 : ∀ i p x, flagAt (initE args i) p = some x → i = 0 ∧ p = none ∧ ∃ cs rest v vs, args = .lst (some x.1) x.2 cs :: rest ∧ vals = v :: vs ∧ (vals.toArray ++ Array.replicate (fn.ntmps - vals.toArray.size) undef).getD 0 undef = v := by
      intro i p x hx
      unfold initE at hx
      cases ha : args[i]? with
      | none => rw [ha] at hx; cases p <;> cases hx
      | some s =>
        rw [ha, Option.getD_some] at hx
        obtain ⟨rfl, rfl⟩ := hfl i s p x ha hx
        refine ⟨rfl, rfl, ?_⟩
        cases args with
        | nil => simp at ha
        | cons s' rest =>
          simp at ha; subst ha
          cases s' <;> try cases hx
          rename_i q k cs
          cases q with
          | none => cases hx
          | some e =>
            cases hx
            cases vals with
            | nil => simp at hl
            | cons v vs =>
              obtain ⟨x, hx1, hx2⟩ := (hval 0 (by simp at hn; omega)).1 (by simp)
              simp at hx1; subst hx1
              exact ⟨cs, rest, v, vs, rfl, rfl, hx2⟩
    refine ⟨hsz, fun i hi => ?_, hbox, fun i p x hi hx => ?_, fun i p i' p' x x' b _ _ hx hx' hb hb' => ?_, hkw, fun i b h => h, fun i b hi hb => ?_, fun b _ _ => rfl, fun b => Nat.le_refl _, fun b j _ => rfl, rfl, rfl, rfl, Nat.le_refl _, fun b _ _ _ => rfl⟩
    · by_cases hia : i < args.length
      · obtain ⟨x, hx, hg⟩ := (hval i hi).1 hia
        rw [hg]
        have hai : args[i]? = some args[i] := List.getElem?_eq_getElem hia
        have : initE args i = args[i] := by simp [initE, hai]
        rw [this]
        exact hrep i x _ hx hai
      · rw [(hval i hi).2 hia]
        have : initE args i = .tup [] := by simp [initE, List.getElem?_eq_none (Nat.not_lt.1 hia)]
        rw [this]
        exact .tup [] [] rfl (fun j v c e => by simp at e)
    · obtain ⟨rfl, rfl, cs, rest, v, vs, ha, hv, hg⟩ := hfl0 i p x hx
      rw [hg]
      refine (hgr x.1 x.2 cs rest v vs ha hv).base (fun g hob _ => .inr ?_)
      show xOf args vals = some g
      rw [ha, hv]; exact hob
    · obtain ⟨rfl, rfl, _⟩ := hfl0 i p x hx
      obtain ⟨rfl, rfl, _⟩ := hfl0 i' p' x' hx'
      exact ⟨rfl, rfl⟩
    · rw [List.getElem?_eq_none hi] at hb; cases hb
  have hst : St F (initE args) H { tmps := vals.toArray ++ Array.replicate (fn.ntmps - vals.toArray.size) undef, defers := [] } w := ⟨rfl, K, β, hinit⟩
  refine calls_of_wp hf hb (Code.wp_mono (fun e a' w' hq => ?_) (code_sound (F := F) hm c _ (initE args) H _ w hin hst h))
  obtain ⟨ρ', H1, ⟨hd, K', β', hinv⟩, hq⟩ := hq
  have fin : retE P fn.results.toList ρ' H1 = some v ∧ Drops H.length H1 v H' → a'.defers = [] ∧ ∃ r, (results fn a'.tmps).run P w' = .ok r w' ∧ ∃ r' K'' β'', Ending.returned r = .returned r' ∧ Grow w K β w' K'' β'' (xOf args vals) ∧ BoxInv w' K'' β'' H' ∧ (∀ b, K'' b ≠ 0 → b < w'.heap.size) ∧
      Rep w' K'' β'' r' v ∧ ResOwn w' K'' β'' (fun g => w.heap.size ≤ g ∨ xOf args vals = some g) r' v := by
    rintro ⟨hret, hdrop⟩
    obtain ⟨r, hrun, hrep', hown⟩ := ret_ok (P := P) hinv hres hret
    have hg : Grow w K β w' K' β' (xOf args vals) :=
      ⟨hinv.os, hinv.tape, hinv.output, hinv.hs, fun b hb hbm hxb => hinv.old b hb hbm (fun e => hxb e.symm), hinv.cells0, hinv.kle, fun b hb hxb => hinv.kk b hb (fun e => hxb e.symm), hinv.pre, hinv.new⟩
    refine ⟨hd, r, hrun, r, K', ?_⟩
    rcases hdrop with rfl | ⟨hmle, ⟨ex, rfl⟩, hpv, hpH⟩
    · exact ⟨β', rfl, hg, hinv.box, hinv.kw, hrep', hown⟩
    · have hlen : β'.length = (H' ++ ex).length := hinv.box.1
      have htl : (β'.take H'.length).length = H'.length := by rw [List.length_take, hlen, List.length_append]; omega
      have htk : ∀ (i b : Nat), i < H'.length → β'[i]? = some b → (β'.take H'.length)[i]? = some b := fun i b hi hb => by rw [List.getElem?_take, if_pos hi]; exact hb
      have htk' : ∀ (i b : Nat), (β'.take H'.length)[i]? = some b → β'[i]? = some b := fun i b hb => by
        rw [List.getElem?_take] at hb; split at hb <;> first | exact hb | cases hb
      have hcut : ∀ {x : Value} {s : SV}, Rep w' K' β' x s → SV.ptrsIn H'.length s → Rep w' K' (β'.take H'.length) x s := fun hr hp => hr.cutβ (fun i b hi hb => htk i b (by omega) hb) (by rw [htl]; exact hp)
      refine ⟨β'.take H'.length, rfl, ?_, ⟨htl, ?_, fun i b cs hb hc => ?_⟩, hinv.kw, hcut hrep' hpv, ⟨fun p y hf => ?_, hown.dis⟩⟩
      · refine ⟨hg.os, hg.tape, hg.output, hg.size, hg.block, hg.cells, hg.le, hg.same, fun i b hb => ?_, fun i b hi hb => hg.new i b hi (htk' i b hb)⟩
        have hil : i < β.length := (List.getElem?_eq_some_iff.1 hb).1
        have : β.length = H.length := hbox.1
        exact htk i b (by omega) (hg.pre i b hb)
      · exact List.Nodup.sublist (List.take_sublist _ _) hinv.box.2.1
      · have hi : i < H'.length := (List.getElem?_eq_some_iff.1 hc).1
        obtain ⟨k0, vs, e, h1, h2, h3, h4⟩ := hinv.box.2.2 i b cs (htk' i b hb) (by rw [List.getElem?_append_left hi]; exact hc)
        exact ⟨k0, vs, e, h1, h2, h3, fun j v c hv hcc => hcut (h4 j v c hv hcc) (ptrsInL_get (hpH cs (List.mem_of_getElem? hc)) j c hcc)⟩
      · rcases hown.own p y hf with ho | ⟨g, len, cap, hv, ho⟩
        · exact .inl ho
        · exact .inr ⟨g, len, cap, hv, ⟨ho.base, fun hm => ho.box (List.mem_of_mem_take hm), ho.com, ho.row, ho.len, ho.cap⟩⟩
  cases e <;> first | exact fin hq | exact hq.elim
end Go.Sx

/-
  The shadow machine, part 6: append.
-/
import Derived.Test.YtbgebincgfpanaaSxE
namespace Go.Sx
open Go Go.RowKit

section
variable {P : Program} {F : Fr} {w : World} {K : Nat → Nat} {β : List Nat} {H : Heap} {ρ : Nat → SV} {a : Act} {o : Oper}

theorem run_append_room_s (t tx ty e : TypeId) (i : TypeInfo) (ht : P.underlying t = some (.slice e)) (hi : P.info? e = some i)
    (g sLen sCap : Nat) (cur : Array Value) (e' : TypeId) (hg : w.heap[g]? = some (.cells cur e' (0, 0))) (x : Value) (m : Nat) (news : List Value) (hs : Src P i.size tx x m news w)
    (hroom : sLen + m ≤ sCap) (hfit : sLen * i.size + news.length ≤ cur.size) :
    (Builtin.append_ #[t, tx] ty #[.slice (some ⟨g, 0, none⟩) sLen sCap, x]).run P w =
      .ok (.slice (some ⟨g, 0, none⟩) (sLen + m) sCap) (w.setRow g (cur.toList.take (sLen * i.size) ++ news ++ cur.toList.drop (sLen * i.size + news.length)).toArray) := by
  have hst := run_storeCells_at P g (sLen * i.size) e' news 0 cur w hg (by simpa using hfit) hs.one
  simp only [Nat.add_zero] at hst
  rcases hs.kind with ⟨e2, hk⟩ | hk <;> simp [Builtin.append_, run_underlying ht, run_underlying hk, sizeOf, typeInfo, hi, hs.len, hroom, hs.cells, Addr.add_lit, hst]

/-- What the second argument of an append holds, as shadow cells. -/
def srcCells (k : Nat) (s : SV) : Option (Nat × List SV) :=
  match s with
  | .lst _ k' cs => if k' = k then some (cs.length / k, cs) else (match cs with | [] => some (0, []) | _ => none)
  | .str bs => if k = 1 then some (bs.length, bs.map fun b => .int .u8 b.toNat) else none
  | _ => none

structure SrcAt (P : Program) (w : World) (K : Nat → Nat) (β : List Nat) (k : Nat) (tx : TypeId) (x : Value) (m : Nat) (news : List Value) (cs : List SV) : Prop where
  src : Src P k tx x m news w
  len : cs.length = news.length
  one : ∀ c ∈ cs, c.one = true
  rep : ∀ (j : Nat) (v : Value) (c : SV), news[j]? = some v → cs[j]? = some c → Rep w K β v c

theorem src_ok {k m : Nat} {tx : TypeId} {x : Value} {s : SV} {cs : List SV} (hk : 0 < k) (hr : Rep w K β x s)
    (hs : srcCells k s = some (m, cs)) (hty : ∀ bs, s = .str bs → P.underlying tx = some .string) (hty' : ∀ q k' cs, s = .lst q k' cs → ∃ e, P.underlying tx = some (.slice e)) :
    ∃ news, SrcAt P w K β k tx x m news cs := by
  unfold srcCells at hs
  split at hs
  · rename_i q k' cs'
    obtain ⟨e, he⟩ := hty' _ _ _ rfl
    rcases rep_lst_row hr with ⟨ea, ecap, hv, hcs, _⟩ | ⟨b, off, len, cap, vs, hv, hrow, hK, hk0, hl, hcap⟩
    · subst hcs; subst hv
      have : m = 0 ∧ cs = [] := by
        split at hs
        · simp at hs; exact ⟨hs.1.symm, by simp_all⟩
        · simp at hs; exact ⟨hs.1.symm, by simp_all⟩
      obtain ⟨rfl, rfl⟩ := this
      cases ea with
      | none => exact ⟨[], Src.ofNil w he ecap, rfl, fun c h => (by cases h), fun j v c h => (by simp at h)⟩
      | some ea => exact ⟨[], Src.ofSlice w he ea 0 ecap [] (by simp) (fun j u hu => by simp at hu) (fun u hu => (by cases hu)), rfl, fun c h => (by cases h), fun j v c h => (by simp at h)⟩
    · subst hv
      split at hs
      · rename_i e1; subst e1
        simp at hs
        obtain ⟨rfl, rfl⟩ := hs
        refine ⟨vs, ?_, hrow.len, hrow.one, hrow.rep⟩
        have hm : cs'.length / k' = len := by rw [hrow.len, hl, Nat.mul_div_cancel _ hk0]
        rw [hm]
        refine Src.ofSlice w he ⟨b, off, none⟩ len cap vs hl (fun j u hu => by rw [add_lit]; exact hrow.mem j u hu) (fun u hu => ?_)
        obtain ⟨j, hj⟩ := List.mem_iff_getElem?.1 hu
        have hjl : j < cs'.length := by rw [hrow.len]; exact (List.getElem?_eq_some_iff.1 hj).1
        exact oneCell_of (hrow.rep j u _ hj (List.getElem?_eq_getElem hjl)) (hrow.one _ (List.getElem_mem hjl))
      · split at hs
        · simp at hs
          obtain ⟨rfl, rfl⟩ := hs
          have hv0 : vs = [] := List.eq_nil_of_length_eq_zero hrow.len.symm
          subst hv0
          have hl0 : len = 0 := by
            rcases Nat.eq_zero_or_pos len with h0 | h0
            · exact h0
            · have := Nat.mul_pos h0 hk0; simp at hl; omega
          subst hl0
          exact ⟨[], Src.ofSlice w he ⟨b, off, none⟩ 0 cap [] (by simp) (fun j u hu => by simp at hu) (fun u hu => (by cases hu)), rfl, fun c h => (by cases h), fun j v c h => (by simp at h)⟩
        · cases hs
  · rename_i bs
    split at hs
    · rename_i e1; subst e1
      simp at hs
      obtain ⟨rfl, rfl⟩ := hs
      cases hr with
      | str sb =>
        have hu := hty _ rfl
        have hsrc := Src.ofString (P := P) w hu sb
        have hlen : sb.data.toList.length = sb.size := by simp
        rw [← hlen] at hsrc
        refine ⟨byteCells sb, hsrc, by simp [byteCells], fun c h => ?_, fun j v c hv hc => ?_⟩
        · obtain ⟨_, _, rfl⟩ := List.mem_map.1 h; rfl
        · unfold byteCells at hv
          rw [List.getElem?_map] at hv hc
          cases hb : sb.data.toList[j]? with
          | none => rw [hb] at hv; cases hv
          | some y => rw [hb] at hv hc; cases hv; cases hc; exact .int _ _
    · cases hs
  · cases hs

/-- The world behind an append to an owned list. -/
theorem append_world {e k m : Nat} {B : Nat → Prop} {v x : Value} {cs cs2 : List SV} {q : Option TypeId} {news : List Value} {t tx ty : TypeId} {i : TypeInfo} {z : Value}
    (hbox : BoxInv w K β H) (hkw : ∀ b, K b ≠ 0 → b < w.heap.size) (hB : B w.heap.size) (ht : P.underlying t = some (.slice e)) (hi : P.info? e = some i) (hz : i.zero = some z) (hzs : z.cells.size = i.size)
    (hk : i.size = k) (hk0 : 0 < k) (hby : i.bytes ≤ 4096) (hr : Rep w K β v (.lst q k cs)) (hown : Owned w K β B v (e, k)) (hsrc : SrcAt P w K β k tx x m news cs2) (hsz : cs.length + cs2.length ≤ 4294967296) :
    ∃ v' w' K' xo, (Builtin.append_ #[t, tx] ty #[v, x]).run P w = .ok v' w' ∧ Grow w K β w' K' β xo ∧ (xo = none ∨ xo = v.ownBlock) ∧ BoxInv w' K' β H ∧ (∀ b, K' b ≠ 0 → b < w'.heap.size) ∧
      Rep w' K' β v' (.lst q k (cs ++ cs2)) ∧ Owned w' K' β B v' (e, k) ∧ (v'.ownBlock = v.ownBlock ∨ v'.ownBlock = some w.heap.size) := by
  have hnl : news.length = m * k := hsrc.src.newsLen
  have hcs2 := hsrc.len
  -- the arm that makes a new row, whatever the old one
  have grow : ∀ (base : Option Addr) (sLen sCap : Nat) (olds : List Value), v = .slice base sLen sCap → (Builtin.firstCells i.size sLen (.slice base sLen sCap)).run P w.drew = .ok olds.toArray w.drew →
      olds.length = sLen * k → cs.length = olds.length → (∀ c ∈ cs, c.one = true) → (∀ (j : Nat) (v : Value) (c : SV), olds[j]? = some v → cs[j]? = some c → Rep w K β v c) → sCap < sLen + m →
      ∃ v' w' K' xo, (Builtin.append_ #[t, tx] ty #[v, x]).run P w = .ok v' w' ∧ Grow w K β w' K' β xo ∧ (xo = none ∨ xo = v.ownBlock) ∧ BoxInv w' K' β H ∧ (∀ b, K' b ≠ 0 → b < w'.heap.size) ∧
        Rep w' K' β v' (.lst q k (cs ++ cs2)) ∧ Owned w' K' β B v' (e, k) ∧ (v'.ownBlock = v.ownBlock ∨ v'.ownBlock = some w.heap.size) := by
    intro base sLen sCap olds hv hold hol hco hone hrep hlt
    subst hk
    have hle : sLen + m ≤ 4294967296 := by
      have h1 : sLen * 1 ≤ sLen * i.size := Nat.mul_le_mul_left _ hk0
      have h2 : m * 1 ≤ m * i.size := Nat.mul_le_mul_left _ hk0
      omega
    have hb : (sLen + m) * i.bytes ≤ 4294967296 * 4096 := Nat.mul_le_mul hle hby
    have hrun := run_append_grow_src (P := P) w t tx ty e i z ht hi hz base sLen sCap olds hold x m news hsrc.src hlt (by omega) (growslice_fits (by omega) (by omega))
    have hge := grownCap_ge w (sLen + m) sCap e
    have hcm := grownCap_le_maxLen w (sLen + m) sCap e (by unfold maxLen; omega)
    have hfr := fresh_row (w := w) (w' := w.drew.alloc (.cells ((olds ++ news).toArray ++ Builtin.zeroCells z.cells (grownCap w (sLen + m) sCap e - (sLen + m))) e))
      (L := (olds ++ news) ++ (Builtin.zeroCells z.cells (grownCap w (sLen + m) sCap e - (sLen + m))).toList) (vs := olds ++ news) (cs := cs ++ cs2) (e := e) (k := i.size) (len := sLen + m) (cap := grownCap w (sLen + m) sCap e) (B := B) (q := q)
      hbox hkw hB (by show (w.heap.push _) = _; congr 2; exact Array.ext' (by simp)) rfl rfl rfl hk0 List.take_left (by rw [List.length_append, hol, hnl, Nat.add_mul]) (by simp [hco, hcs2]) hge
      (by
        have h0 : (Builtin.zeroCells z.cells (grownCap w (sLen + m) sCap e - (sLen + m))).toList.length = (grownCap w (sLen + m) sCap e - (sLen + m)) * i.size := by
          rw [Array.length_toList, size_zeroCells, hzs]
        rw [List.length_append, List.length_append, h0, hol, hnl, ← Nat.add_mul, ← Nat.add_mul]
        congr 1; omega) hcm
      (fun c hc => by rcases List.mem_append.1 hc with hc | hc; exact hone c hc; exact hsrc.one c hc)
      (fun j v c hv hc => by
        rw [List.getElem?_append] at hv hc
        rw [hco] at hc
        split at hv
        · rename_i hj; rw [if_pos hj] at hc; exact hrep j v c hv hc
        · rename_i hj; rw [if_neg hj] at hc; exact hsrc.rep _ v c hv hc)
    obtain ⟨g, b1, b2, b3, b4⟩ := hfr
    rw [hv]
    exact ⟨_, _, _, none, hrun, g, .inl rfl, b1, b2, b3, b4, .inr rfl⟩
  rcases hown with hv | ⟨g, len, cap, hv, ho⟩
  · subst hv
    rcases rep_lst_row hr with ⟨_, _, _, hcs, _⟩ | ⟨b, off, l, c, vs, hv, _⟩
    · subst hcs
      by_cases hm : m = 0
      · subst hm
        have hn : news = [] := List.eq_nil_of_length_eq_zero (by simpa using hnl)
        subst hn
        have hc2 : cs2 = [] := List.eq_nil_of_length_eq_zero (by simpa using hcs2)
        subst hc2
        refine ⟨.slice none 0 0, w, K, none, ?_, Grow.refl _ _ _ _, .inl rfl, hbox, hkw, .nil _ _, .inl rfl, .inl rfl⟩
        rcases hsrc.src.kind with ⟨e2, hk2⟩ | hk2 <;>
          simp [Builtin.append_, run_underlying ht, run_underlying hk2, sizeOf, typeInfo, hi, hsrc.src.len, hk, hsrc.src.cells]
      · exact grow none 0 0 [] rfl (run_firstCells_none w.drew i.size 0 0 0) (by simp) rfl (fun c h => by cases h) (fun j v c h => by simp at h) (by omega)
    · cases hv
  · subst hv
    have hrowform : ∃ b off l c vs, Value.slice (some ⟨g, 0, none⟩) len cap = .slice (some ⟨b, off, none⟩) l c ∧ RowAt w K β b off vs cs ∧ off + vs.length ≤ K b ∧ 0 < k ∧ vs.length = l * k ∧ l ≤ c := by
      rcases rep_lst_row hr with ⟨ea, ecap, hv, hcs, _⟩ | hrow
      · injection hv with hv1 hv2 hv3
        subst hcs; subst hv2; subst hv3
        exact ⟨g, 0, 0, cap, [], rfl, ⟨rfl, fun j v e => by simp at e, fun c e => (by cases e), fun j v c e => by simp at e⟩, by simp, hk0, by simp, Nat.zero_le _⟩
      · exact hrow
    · obtain ⟨b, off, l, c, vs, hv, hrow, hK, _, hl, hcap⟩ := hrowform
      injection hv with hv1 hv2 hv3
      injection hv1 with hv1
      injection hv1 with hb ho'
      subst hb; subst hv2; subst hv3; subst ho'
      obtain ⟨cur, hcur, hcs⟩ := ho.row
      by_cases hroom : len + m ≤ cap
      · subst hk
        have hfit : len * i.size + news.length ≤ cur.size := by rw [hnl, hcs, ← Nat.add_mul]; exact Nat.mul_le_mul_right _ hroom
        have hrun := run_append_room_s (P := P) t tx ty e i ht hi g len cap cur e hcur x m news hsrc.src hroom hfit
        have htake : cur.toList.take (len * i.size) = vs := by
          apply List.ext_getElem?
          intro j
          rw [List.getElem?_take]
          by_cases hj : j < vs.length
          · have hm := hrow.mem j vs[j] (List.getElem?_eq_getElem hj)
            rw [cell_of_row w g _ _ _ _ hcur] at hm
            rw [if_pos (by omega), List.getElem?_eq_getElem hj]
            simpa using hm
          · rw [if_neg (by omega), List.getElem?_eq_none (by omega)]
        have hnew := setRow_heap w g cur (cur.toList.take (len * i.size) ++ news ++ cur.toList.drop (len * i.size + news.length)).toArray e _ hcur
        have hother : ∀ b, b ≠ g → (w.setRow g (cur.toList.take (len * i.size) ++ news ++ cur.toList.drop (len * i.size + news.length)).toArray).heap[b]? = w.heap[b]? := fun b hb => setRow_other w g b _ hb
        have hglt : g < w.heap.size := (Array.getElem?_eq_some_iff.1 hcur).1
        have hcells : ∀ b j, j < K b → (w.setRow g (cur.toList.take (len * i.size) ++ news ++ cur.toList.drop (len * i.size + news.length)).toArray).cell? ⟨b, j, none⟩ = w.cell? ⟨b, j, none⟩ := by
          intro b j hj
          by_cases hb : b = g
          · subst hb
            rw [cell_of_row _ b j _ _ _ hnew, cell_of_row w b j _ _ _ hcur]
            have hjl : j < len * i.size := Nat.lt_of_lt_of_le hj ho.com
            simp only [List.getElem?_toArray]
            rw [List.append_assoc, List.getElem?_append_left (by rw [htake, hl]; exact hjl), List.getElem?_take, if_pos hjl]
            simp
          · exact World.cell?_of_block (w := w) (a := ⟨b, j, none⟩) (hother b hb)
        have hgrow : Grow w K β (w.setRow g (cur.toList.take (len * i.size) ++ news ++ cur.toList.drop (len * i.size + news.length)).toArray) (updK K g ((len + m) * i.size)) β (some g) := by
          refine ⟨rfl, rfl, rfl, by simp, fun b _ _ hb => hother b (fun e => hb (by rw [e])), hcells, fun b => ?_, fun b _ hb => ?_, fun _ _ h => h, fun i b h hb => by rw [List.getElem?_eq_none h] at hb; cases hb⟩
          · unfold updK; split
            · rename_i e; subst e; exact Nat.le_trans ho.com (Nat.mul_le_mul_right _ (by omega))
            · exact Nat.le_refl _
          · unfold updK; rw [if_neg (fun e => hb (by rw [e]))]
        refine ⟨_, _, _, some g, hrun, hgrow, .inr rfl, hbox.grow hgrow (fun b hb => ⟨hother b (fun e => ho.box (e ▸ hb)), fun e => ho.box (by injection e with e; exact e ▸ hb)⟩), fun b hb => ?_, ?_, ?_, .inl rfl⟩
        · simp only [size_setRow]
          unfold updK at hb; split at hb
          · rename_i e; rw [e]; exact hglt
          · exact hkw b hb
        · refine .lst q i.size g 0 (len + m) cap (vs ++ news) (cs ++ cs2) hk0 (by rw [List.length_append, hl, hnl, Nat.add_mul]) (by simp [hrow.len, hcs2]) hroom (fun j u hj => ?_) ?_
            (fun c hc => by rcases List.mem_append.1 hc with hc | hc; exact hrow.one c hc; exact hsrc.one c hc) (fun j u c hu hc => ?_)
          · rw [Nat.zero_add, cell_of_row _ g j _ _ _ hnew]
            simp only [List.getElem?_toArray]
            rw [htake, List.getElem?_append_left (by exact (List.getElem?_eq_some_iff.1 hj).1)]
            exact hj
          · rw [Nat.zero_add, List.length_append, hl, hnl, ← Nat.add_mul]
            simp [updK]
          · rw [List.getElem?_append] at hu hc
            rw [hrow.len] at hc
            split at hu
            · rename_i hj; rw [if_pos hj] at hc; exact hgrow.rep (hrow.rep j u c hu hc)
            · rename_i hj; rw [if_neg hj] at hc; exact hgrow.rep (hsrc.rep _ u c hu hc)
        · refine .inr ⟨g, len + m, cap, rfl, ho.base, ho.box, by simp [updK], ⟨_, hnew, ?_⟩, hroom, ho.cap⟩
          show _ = cap * i.size
          rw [← hcs]
          simp only [List.size_toArray, List.length_append, List.length_take, List.length_drop, Array.length_toList]
          omega
      · exact grow (some ⟨g, 0, none⟩) len cap vs rfl (run_firstCells_some w.drew i.size len ⟨g, 0, none⟩ len cap vs (by rw [hk]; exact hl) (fun j u hu => by rw [add_lit]; exact hrow.mem j u hu)) hl hrow.len hrow.one hrow.rep (by omega)
end
end Go.Sx

import PyProof.Rows.All
import Wide.All
import OpenK.AllK
import Wide.FinOn
import HandS.Base
import HandS.Call
import HandS.List
import HandS.Comp
import HandS.Ends
import HandS.Dict
import HandS.Iter
import HandS.Text
import HandS.Words
import HandS.WordsList
import HandS.Walk
import HandS.IsInst
import HandS.Defaults
import HandS.Codes
import PySem.Challenge.RW_oneshard_k01_valid_names
set_option Elab.async false
set_option linter.all false
set_option maxRecDepth 100000
set_option maxHeartbeats 2000000
namespace OS
open PySem L2
def top (i : Nat) : Stmt := PySem.Challenge.pw_oneshard_k01_valid_names.main.body.getD i (.Pass ⟨0, 0, 0, 0⟩)
abbrev sStart : Stmt := top 7
abbrev sTake : Stmt := top 8
/-- but for st and cl all that was tracked is as it was -/
def Kb (st cl : Addr) (H H' : Hp) : Prop := ∀ b o, H b = some o → b ≠ st → b ≠ cl → H' b = some o
/-- the drawing state: its cells at cl, at most m draws so far -/
structure StAt (H : Hp) (st cl : Addr) (m : Nat) : Prop where
  ob : ∃ p c : Int, H st = some (.lst [.ref cl, .int p, .int c]) ∧ 0 ≤ c ∧ c ≤ m
  cs : ∃ ns : List Int, H cl = some (.lst (ns.map V.int)) ∧ ns.length ≤ 63
  ne : st ≠ cl
structure Bi (mg : Str → Option Value) : Prop where
  len : mg "len" = none
  int : mg "int" = none
  max : mg "max" = none
  abs : mg "abs" = none
def spTake : Sp := fun vs H Q _ => ∃ (st cl : Addr) (m : Nat) (lim : Int), vs = [.ref st, .int lim] ∧ StAt H st cl m ∧ m ≤ 1000000000 ∧ 0 < lim ∧ lim < 1073741824 ∧
  ∀ (n : Int) (H' : Hp), 0 ≤ n → n < lim → StAt H' st cl (m + 1) → Kb st cl H H' → Q (.int n) H'
theorem fmod_in {i j : Int} (h : 0 < j) : 0 ≤ i.fmod j ∧ i.fmod j < j := ⟨Int.fmod_nonneg_of_pos _ h, Int.fmod_lt_of_pos _ h⟩
theorem getD_int {ns : List Int} {k : Int} (h0 : 0 ≤ k) (h1 : k < (ns.length : Int)) : ∃ z : Int, (ns.map V.int)[k.toNat]? = some (V.int z) ∧ ns[k.toNat]? = some z := by
  have hk : k.toNat < ns.length := by omega
  refine ⟨ns[k.toNat], ?_, List.getElem?_eq_getElem hk⟩
  rw [List.getElem?_map, List.getElem?_eq_getElem hk]
  rfl
theorem ixN_in {n : Nat} {k : Int} (h0 : 0 ≤ k) (h1 : k < (n : Int)) : ixN n k = some k.toNat := by
  unfold ixN
  rw [if_pos h0, if_pos h1]
theorem atI_in {α : Type} {xs : List α} {k : Int} {v : α} (h0 : 0 ≤ k) (h : xs[k.toNat]? = some v) : atI xs k = some v := by
  have := atI_nat h
  rwa [Int.toNat_of_nonneg h0] at this
section
variable {P : Program} {w : World} {K : PySem.W.Frag} {mg : Str → Option Value} {base : Heap}
abbrev nTake : List Str := ["_law_state", "_law_limit", "_law_cells", "_law_at", "_law_cell", "_law_number"]
theorem scTake : FnScope nTake ["_law_state", "_law_limit"] (defScope sTake) := ⟨rfl, rfl, rfl, by decide +kernel, rfl, by decide +kernel, by decide +kernel⟩
theorem ok_take {f : Addr} {fd : FuncData} (F : Fun K "_law_take" "_law_take" sTake f fd) (T : Bi mg) : FnOk P w K mg base CX0 1 f fd ["_law_state", "_law_limit"] spTake := by
  refine F.ok scTake (fun vs H Q E h => ?_) (fun cdv A outer s H vs Q E hr h => ?_)
  · obtain ⟨st, cl, m, lim, rfl, _⟩ := h
    rfl
  · obtain ⟨st, cl, m, lim, rfl, S, hm, hl0, hl1, k⟩ := h
    obtain ⟨⟨p, c, hst, hc0, hc1⟩, ⟨ns, hcl, hn⟩, hne⟩ := S
    refine ⟨_, pss_cons (ps_set (i := 2) scTake.nd rfl (Or.inl rfl) (pe_ix ix_list (pv 0) pe_int fun _ _ => rfl))
      (pss_cons (ps_asg (pe_op op_add (pe_ix ix_list (pv 0) pe_int fun _ _ => rfl) pe_int) (pg_sub (pv 0) pe_int set_list))
      (pss_cons (ps_set (i := 3) scTake.nd rfl (Or.inl rfl) (pe_op op_modN (pe_callTy call_int1 (by rfl) T.int (by decide +kernel) (pa_cons (pe_ix ix_list (pv 0) pe_int fun _ _ => rfl) pa_nil))
          (pe_callB (call_max2 rfl) (by rfl) T.max (by decide +kernel) (pa_cons pe_int (pa_cons (pe_callB call_len_seq (by rfl) T.len PySem.boot_len (pa_cons (pv 2) pa_nil)) pa_nil)))))
      (pss_cons (ps_set (i := 4) scTake.nd rfl (Or.inl rfl) pe_int)
      (pss_cons (ps_if (pt_truth (pv 2) (by intro _; rfl)) (pss_one (ps_set (i := 4) scTake.nd rfl (Or.inl rfl) (pe_ix ix_list (pv 2) (pv 3) fun _ _ => rfl))) pss_nil)
      (pss_cons (ps_if (pt_cmpR op_ge (pe_callB call_abs (by rfl) T.abs (by decide +kernel) (pa_cons (pv 4) pa_nil)) (pe_op op_pow pe_int pe_int) (nomark _))
        (pss_cons (ps_asg (pe_op op_fdivN (pe_callB call_abs (by rfl) T.abs (by decide +kernel) (pa_cons (pv 4) pa_nil)) (pv 1)) (pg_sub (pv 2) (pv 3) set_list))
          (pss_one (ps_ret (pe_op op_modN (pe_callB call_abs (by rfl) T.abs (by decide +kernel) (pa_cons (pv 4) pa_nil)) (pv 1))))) pss_nil)
      (pss_cons (ps_asg (pe_op op_add (pe_ix ix_list (pv 0) pe_int fun _ _ => rfl) pe_int) (pg_sub (pv 0) pe_int set_list))
      (pss_cons (ps_set (i := 5) scTake.nd rfl (Or.inl rfl) (pe_op op_modN (pe_op op_pow (pe_callTy call_int1 (by rfl) T.int (by decide +kernel) (pa_cons (pe_op op_add (pe_op op_add (pe_op op_mul (pe_op op_modN (pe_callTy call_int1 (by rfl) T.int (by decide +kernel) (pa_cons (pv 4) pa_nil)) pe_int) pe_int) (pe_op op_mul (pe_ix ix_list (pv 0) pe_int fun _ _ => rfl) pe_int)) pe_int) pa_nil)) pe_int) pe_int))
      (pss_cons (ps_set (i := 5) scTake.nd rfl (Or.inl rfl) (pe_op op_modN (pe_op op_pow (pe_callTy call_int1 (by rfl) T.int (by decide +kernel) (pa_cons (pe_op op_add (pe_op op_add (pe_op op_mul (pv 5) pe_int) (pe_op op_mul (pe_ix ix_list (pv 0) pe_int fun _ _ => rfl) pe_int)) pe_int) pa_nil)) pe_int) pe_int))
      (pss_one (ps_ret (pe_op op_modN (pe_op op_fdivN (pv 5) pe_int) (pv 1)))))))))))), ?_⟩
    have a0 : atI [V.ref cl, V.int p, V.int c] 0 = some (V.ref cl) := rfl
    refine ⟨_, rfl, st, _, _, _, rfl, rfl, SqL.of hst, a0, ?_⟩
    -- state[2] = state[2] + 1
    refine ⟨_, rfl, st, _, _, V.int c, rfl, rfl, SqL.of hst, rfl, _, _, rfl, rfl, ?_⟩
    refine ⟨_, rfl, st, _, _, 2, rfl, rfl, hst, rfl, ?_⟩
    have h1 : ∀ o, (upd H st o) cl = some (.lst (ns.map V.int)) := fun o => by rw [upd_ne hne.symm]; exact hcl
    -- at = int(state[1]) % max(1, len(cells))
    refine ⟨_, rfl, st, _, _, V.int p, rfl, rfl, SqL.of upd_same, rfl, .inl ⟨_, rfl, ?_⟩⟩
    refine ⟨_, rfl, cl, ns.map V.int, rfl, .inl (SqL.of (h1 _)), _, _, rfl, ?_⟩
    have hL : (((ns.map V.int).length : Nat) : Int) = (ns.length : Int) := by rw [List.length_map]
    rw [hL]
    have hmx : ∃ mx : Int, (if (ns.length : Int) > 1 then (ns.length : Int) else 1) = mx ∧ 0 < mx ∧ (0 < ns.length → mx ≤ ns.length) := by
      refine ⟨_, rfl, ?_, fun _ => ?_⟩
      · split <;> omega
      · split <;> omega
    obtain ⟨mx, emx, mx0, mx1⟩ := hmx
    rw [emx]
    refine ⟨_, _, rfl, rfl, (by omega), ?_⟩
    obtain ⟨ka, kb⟩ := fmod_in (i := p) mx0
    obtain ⟨at_, hat⟩ : ∃ a, a = p.fmod mx := ⟨_, rfl⟩
    rw [← hat] at ka kb
    -- cell = 0; if cells: cell = cells[at]
    refine ⟨_, rfl, _, .inl ⟨_, SqL.of (h1 _), rfl⟩, ?_⟩
    show if (!(ns.map V.int).isEmpty) = true then _ else _
    have hE : (!(ns.map V.int).isEmpty) = decide (0 < ns.length) := by cases ns <;> simp
    rw [hE]
    rw [show (fun i j => V.int (Int.fmod i j)) p mx = V.int at_ by rw [hat]]
    have h10 : ((10 : Int) ^ (18 : Int).toNat) = 1000000000000000000 := by decide
    by_cases hp : 0 < ns.length
    all_goals first
      | have hp' : 0 < ns.length := hp
        rw [decide_eq_true hp]
        refine iteT ?_
        obtain ⟨z, hz1, hz2⟩ := getD_int (ns := ns) (k := at_) ka (by have := mx1 hp; omega)
        refine ⟨_, rfl, _, rfl, cl, _, _, V.int z, rfl, rfl, SqL.of (h1 _), atI_in ka hz1, ?_⟩
        have hz : z = 0 ∨ at_ < (ns.length : Int) := .inr (by have := mx1 hp; omega)
      | have hp' : ¬ 0 < ns.length := hp
        rw [decide_eq_false hp]
        refine iteF ?_
        obtain ⟨z, ez⟩ : ∃ z : Int, z = 0 := ⟨0, rfl⟩
        rw [show (some (V.int 0) : Option V) = some (V.int z) by rw [ez]]
        have hz : z = 0 ∨ at_ < (ns.length : Int) := .inl ez
    all_goals
      refine ⟨_, rfl, _, rfl, _, _, rfl, rfl, ⟨by decide, by decide, by decide⟩, _, _, rfl, rfl, _, rfl, ?_⟩
      rw [h10]
      obtain ⟨az, haz⟩ : ∃ az, az = (if z < 0 then -z else z) := ⟨_, rfl⟩
      have haz0 : 0 ≤ az := by rw [haz]; split <;> omega
      rw [← haz]
      refine ite2 (fun hb => ?_) (fun hb => ?_)
      · have hb' : (1000000000000000000 : Int) ≤ az := of_decide_eq_true hb
        have hat2 : at_ < (ns.length : Int) := by
          rcases hz with h | h
          · subst h; rw [haz] at hb'; simp at hb'
          · exact h
        refine ⟨_, rfl, _, rfl, _, rfl, _, _, rfl, rfl, ⟨by omega, by omega⟩, ?_⟩
        refine ⟨_, rfl, _, rfl, cl, _, _, at_.toNat, rfl, rfl, h1 _, ixN_in ka (by rw [List.length_map]; exact hat2), ?_⟩
        refine ⟨_, rfl, _, rfl, _, rfl, _, _, rfl, rfl, (by omega), ?_⟩
        rw [← haz]
        obtain ⟨k0, k1⟩ := fmod_in (i := az) hl0
        refine k _ _ k0 k1 ⟨⟨p, c + 1, ?_, by omega, by push_cast; omega⟩, ⟨ns.set at_.toNat (az.fdiv lim), ?_, by rw [List.length_set]; exact hn⟩, hne⟩ ?_
        · rw [upd_ne hne, upd_same]
          rfl
        · rw [upd_same, List.map_set]
        · intro b o e hb1 hb2
          rw [upd_ne hb2, upd_ne hb1]
          exact e
      · -- state[1] = state[1] + 1
        refine ⟨_, rfl, st, _, _, V.int p, rfl, rfl, SqL.of upd_same, rfl, _, _, rfl, rfl, ?_⟩
        refine ⟨_, rfl, st, _, _, 1, rfl, rfl, upd_same, rfl, ?_⟩
        -- number
        have r1 : ∀ i : Int, 0 ≤ i.fmod 2147483647 ∧ i.fmod 2147483647 < 2147483647 := fun i => fmod_in (by decide)
        obtain ⟨y1, hy1⟩ : ∃ y, y = z.fmod 2147483647 := ⟨_, rfl⟩
        obtain ⟨q1, q2⟩ := r1 z
        rw [← hy1] at q1 q2
        refine ⟨_, rfl, .inl ⟨_, rfl, ?_⟩⟩
        refine ⟨_, _, rfl, rfl, (by show (_ : Int) ≠ 0; decide), ?_⟩
        rw [show (fun i j => V.int (Int.fmod i j)) z 2147483647 = V.int y1 by rw [hy1]]
        refine ⟨_, _, rfl, rfl, .inl ⟨by omega, by omega⟩, ?_⟩
        refine ⟨_, rfl, st, _, _, V.int (c + 1), rfl, rfl, SqL.of upd_same, rfl, _, _, rfl, rfl, .inl ⟨by omega, by omega⟩, ?_⟩
        refine ⟨_, _, rfl, rfl, _, _, rfl, rfl, .inl ⟨_, rfl, ?_⟩⟩
        refine ⟨_, _, rfl, rfl, ⟨by decide, by decide, ?_⟩, ?_⟩
        · show (y1 * 48271 + (c + 1) * 69621 + 11).natAbs < 2 ^ 64
          omega
        refine ⟨_, _, rfl, rfl, (by show (_ : Int) ≠ 0; decide), ?_⟩
        obtain ⟨q3, q4⟩ := r1 ((y1 * 48271 + (c + 1) * 69621 + 11) ^ (5 : Int).toNat)
        obtain ⟨y2, hy2⟩ : ∃ y, y = ((y1 * 48271 + (c + 1) * 69621 + 11) ^ (5 : Int).toNat).fmod 2147483647 := ⟨_, rfl⟩
        rw [← hy2] at q3 q4
        refine ⟨_, rfl, _, _, rfl, rfl, .inl ⟨?_, ?_⟩, ?_⟩
        · show -(2 ^ 64) < (((y1 * 48271 + (c + 1) * 69621 + 11) ^ (5 : Int).toNat).fmod 2147483647)
          rw [← hy2]; omega
        · show (((y1 * 48271 + (c + 1) * 69621 + 11) ^ (5 : Int).toNat).fmod 2147483647) < 2 ^ 64
          rw [← hy2]; omega
        refine ⟨_, rfl, st, _, _, V.int (c + 1), rfl, rfl, SqL.of upd_same, rfl, _, _, rfl, rfl, .inl ⟨by omega, by omega⟩, ?_⟩
        refine ⟨_, _, rfl, rfl, _, _, rfl, rfl, .inl ⟨_, rfl, ?_⟩⟩
        refine ⟨_, _, rfl, rfl, ⟨by decide, by decide, ?_⟩, ?_⟩
        · show ((((y1 * 48271 + (c + 1) * 69621 + 11) ^ (5 : Int).toNat).fmod 2147483647) * 16807 + (c + 1) * 40692 + 7).natAbs < 2 ^ 64
          rw [← hy2]; omega
        refine ⟨_, _, rfl, rfl, (by show (_ : Int) ≠ 0; decide), ?_⟩
        refine ⟨_, rfl, _, _, rfl, rfl, ⟨by decide, by decide⟩, _, rfl, _, _, rfl, rfl, (by omega), ?_⟩
        obtain ⟨k0, k1⟩ := fmod_in (i := (((((((y1 * 48271 + (c + 1) * 69621 + 11) ^ (5 : Int).toNat).fmod 2147483647) * 16807 + (c + 1) * 40692 + 7) ^ (5 : Int).toNat).fmod 2147483629).fdiv 16)) hl0
        refine k _ _ k0 k1 ⟨⟨p + 1, c + 1, ?_, by omega, by push_cast; omega⟩, ⟨ns, ?_, hn⟩, hne⟩ ?_
        · rw [upd_same]
          rfl
        · rw [upd_ne hne.symm, upd_ne hne.symm]
          exact hcl
        · intro b o e hb1 hb2
          rw [upd_ne hb1, upd_ne hb1]
          exact e
def spStart (K : PySem.W.Frag) : Sp := fun vs H Q _ => ∃ (a : Addr) (ns : List Int), vs = [.ref a] ∧ SqL K H a (ns.map V.int) ∧ ns.length ≤ 63 ∧
  ∀ (st cl : Addr) (H' : Hp), StAt H' st cl 0 → Same H H' → H st = none → H cl = none → Q (.ref st) H'
abbrev nStart : List Str := ["_law_script", "_law_cell"]
theorem scStart : FnScope nStart ["_law_script"] (defScope sStart) := ⟨rfl, rfl, rfl, by decide +kernel, rfl, by decide +kernel, by decide +kernel⟩
theorem ok_start {f : Addr} {fd : FuncData} (F : Fun K "_law_start" "_law_start" sStart f fd) (T : Bi mg) : FnOk P w K mg base CX0 1 f fd ["_law_script"] (spStart K) := by
  refine F.ok scStart (fun vs H Q E h => ?_) (fun cdv A outer s H vs Q E hr h => ?_)
  · obtain ⟨a, ns, rfl, _⟩ := h
    rfl
  · obtain ⟨a, ns, rfl, hS, hn, k⟩ := h
    refine ⟨_, pss_one (ps_ret (pe_lst (pa_cons (pe_lc (own := [("_law_cell", 1)]) (g := gName 1) (tt := tYes) rfl scStart.nd (pi_list (pv 0)) (blkOk_by (own := [("_law_cell", 1)]) (N := nStart) (sc := defScope sStart) (by decide +kernel))
        (fun _ _ _ _ _ => pg_name (i := 1) scStart.nd rfl (Or.inl rfl)) (fun _ _ _ _ _ => pts_nil) (fun _ _ _ _ _ => pe_callTy call_int1 (by rfl) T.int (by decide +kernel) (pa_cons (pv 1) pa_nil)))
      (pa_cons pe_int (pa_cons pe_int pa_nil))))), ?_⟩
    refine ⟨_, rfl, a, rfl, ⟨_, hS⟩, fun D hD => lc_list (K := K) (a := a) (xs := ns.map V.int) (fun i H' => Same H H' ∧ H' D = some (.lst ((ns.take i).map V.int))) ⟨?_, ?_⟩ (fun i H' _ h => h.1.seq hS) ?_ ?_⟩
    · intro b o e
      rw [upd_ne (ne_of_none e hD)]
      exact e
    · rw [upd_same]
      rfl
    · intro i x H' hi ⟨s1, s2⟩
      obtain ⟨z, hz, rfl⟩ : ∃ z, ns[i]? = some z ∧ x = V.int z := by
        rw [List.getElem?_map] at hi
        cases e : ns[i]? with
        | none => rw [e] at hi; cases hi
        | some z => rw [e] at hi; exact ⟨z, rfl, (Option.some.inj hi).symm⟩
      have hil : i < ns.length := (List.getElem?_eq_some_iff.mp hz).1
      refine ⟨rfl, ?_⟩
      refine ⟨_, rfl, .inl ⟨_, rfl, _, s2, ?_, ?_, ?_⟩⟩
      · rw [List.length_map, List.length_take]
        exact small1000 (by omega)
      · intro b o e
        rw [upd_ne (ne_of_none e hD)]
        exact s1 b o e
      · rw [upd_same, List.take_succ, hz]
        simp
    · intro H' ⟨s1, s2⟩
      rw [List.length_map, List.take_length] at s2
      refine ⟨by show 3 ≤ sizeLine; decide, fun st hst => ?_⟩
      have hne : st ≠ D := (ne_of_none s2 hst).symm
      refine k st D _ ⟨⟨0, 0, upd_same, by decide, by decide⟩, ⟨ns, by rw [upd_ne hne.symm]; exact s2, hn⟩, hne⟩ ?_ ?_ hD
      · intro b o e
        rw [upd_ne (ne_of_none (s1 b o e) hst)]
        exact s1 b o e
      · exact s1.free hst
end
end OS
namespace OS
open PySem L2
abbrev sValid : Stmt := top 5
abbrev lowL : Str := "abcdefghijklmnopqrstuvwxyz"
abbrev digL : Str := "0123456789"
def chOk (c : Nat) : Bool := decide (c ∈ lowL.cps.toList) || decide (c ∈ digL.cps.toList)
/-- what a name is, over a text's signs -/
def good (z : Str) : Bool :=
  if z = "mod" then false else if z.cps.toList.length < 1 ∨ 6 < z.cps.toList.length then false
  else if z.cps.toList.headD 0 ∈ lowL.cps.toList then z.cps.toList.all chOk else false
theorem Str.len_list (z : Str) : z.length = z.cps.toList.length := by
  show z.cps.size = _
  rw [Array.length_toList]
structure Nm (mg : Str → Option Value) : Prop where
  most : ∃ t, mg "MOST_CHARACTERS" = some (.int 6 t)
  let_ : ∃ t, mg "LETTERS" = some (.str lowL t)
  dig : ∃ t, mg "DIGITS" = some (.str digL t)
  res : ∃ t, mg "RESERVED" = some (.str "mod" t)
  all : mg "all" = none
theorem pe_gs {X : Cx} {x : Str} {pos : Pos} {z : Str} {t : Tok} (hg : Gl X x) (hm : X.mg x = some (.str z t)) (hd : (x == ("__debug__" : Str)) = false := by decide) : PE X (.Name x pos) (tC (.str z)) := pe_glob hg hm ⟨t, rfl⟩ hd
theorem pe_gi {X : Cx} {x : Str} {pos : Pos} {z : Int} {t : Tok} (hg : Gl X x) (hm : X.mg x = some (.int z t)) (hd : (x == ("__debug__" : Str)) = false := by decide) : PE X (.Name x pos) (tC (.int z)) := pe_glob hg hm ⟨t, rfl⟩ hd
def spValid : Sp := fun vs H Q _ => ∃ (z : Str), vs = [.str z] ∧ z.length ≤ 1000 ∧ ∀ H', Same H H' → Q (.bl (good z)) H'
section
variable {P : Program} {w : World} {K : PySem.W.Frag} {mg : Str → Option Value} {base : Heap}
abbrev nValid : List Str := ["text", "character"]
theorem scValid : FnScope nValid ["text"] (defScope sValid) := ⟨rfl, rfl, rfl, by decide +kernel, rfl, by decide +kernel, by decide +kernel⟩
theorem ok_valid {f : Addr} {fd : FuncData} (F : Fun K "valid_name" "valid_name" sValid f fd) (T : Bi mg) (N : Nm mg) : FnOk P w K mg base CX0 1 f fd ["text"] spValid := by
  obtain ⟨⟨t1, mM⟩, ⟨t2, mL⟩, ⟨t3, mD⟩, ⟨t4, mR⟩, mA⟩ := N
  refine F.ok scValid (fun vs H Q E h => ?_) (fun cdv A outer s H vs Q E hr h => ?_)
  · obtain ⟨z, rfl, _⟩ := h
    rfl
  · obtain ⟨z, rfl, hz, k⟩ := h
    refine ⟨_, pss_cons (ps_if (PW.pt (pw_or (pt_cmpR op_eq (pv 0) (pe_gs rfl mR) (nomark _)) (pw_or1 (pt_not (pt_chain op_le op_le pe_int (pe_callB call_len_str (by rfl) T.len PySem.boot_len (pa_cons (pv 0) pa_nil)) (pe_gi rfl mM)))))) (pss_one (ps_ret pe_bl)) pss_nil)
      (pss_cons (ps_if (pt_cmpR op_notIn_sign (pe_ix ix_str (pv 0) pe_int fun _ _ => rfl) (pe_gs rfl mL) rfl) (pss_one (ps_ret pe_bl)) pss_nil)
      (pss_one (ps_ret (pe_callB (cr_all rfl) (by rfl) mA (by decide +kernel) (pa_cons
        (pe_lc (own := [("character", 1)]) (g := gName 1) (tt := tYes) rfl scValid.nd (pi_str (pv 0)) (blkOk_by (own := [("character", 1)]) (N := nValid) (sc := defScope sValid) (by decide +kernel))
        (fun _ _ _ _ _ => pg_name (i := 1) scValid.nd rfl (Or.inl rfl)) (fun _ _ _ _ _ => pts_nil) (fun _ _ _ _ _ => pe_or (pe_cmpR op_in_sign (pv 1) (pe_gs rfl mL) rfl) (pe_one (pe_cmpR op_in_sign (pv 1) (pe_gs rfl mD) rfl)))) pa_nil))))), ?_⟩
    have hs : z.length ≤ sizeLine := Nat.le_of_lt (small1000 hz)
    have hln := Str.len_list z
    have edec : decide (V.str z = V.str "mod") = decide (z = "mod") := by
      by_cases h : z = "mod"
      · rw [decide_eq_true h, decide_eq_true (congrArg V.str h)]
      · rw [decide_eq_false h, decide_eq_false (fun e => h (V.str.inj e))]
    refine ⟨_, rfl, rfl, _, rfl, ?_⟩
    rw [edec]
    have hkf : ∀ H', Same H H' → good z = false → Q (.bl false) H' := fun H' s g => by have := k H' s; rwa [g] at this
    refine ite2 (fun hm => ?_) (fun hm => ?_)
    · exact hkf H (Same.refl H) (by unfold good; rw [if_pos (of_decide_eq_true hm)])
    have hm' : ¬ z = "mod" := fun e => hm (decide_eq_true e)
    have hkb : ∀ H', Same H H' → ¬ (1 ≤ z.length ∧ z.length ≤ 6) → Q (.bl false) H' := fun H' s g => hkf H' s (by unfold good; rw [if_neg hm', if_pos (by omega)])
    refine ⟨_, rfl, _, rfl, hs, _, _, rfl, rfl, _, rfl, ?_⟩
    refine ite2 (fun h1 => ?_) (fun h1 => ?_)
    rotate_left
    · have h1' : ¬ ((1 : Int) ≤ z.length) := fun e => h1 (decide_eq_true e)
      refine ⟨_, rfl, iteT ?_⟩
      exact hkb H (Same.refl H) (by omega)
    have h1' : (1 : Int) ≤ z.length := of_decide_eq_true h1
    refine ⟨_, _, rfl, rfl, _, rfl, ?_⟩
    by_cases h6 : (z.length : Int) ≤ 6
    rotate_left
    · rw [decide_eq_false h6]
      refine iteT ?_
      exact hkb H (Same.refl H) (by omega)
    rw [decide_eq_true h6]
    refine iteF ?_
    -- text[0] not in LETTERS
    obtain ⟨c0, l0, hl0⟩ : ∃ c0 l0, z.cps.toList = c0 :: l0 := by
      cases e : z.cps.toList with
      | nil => rw [e] at hln; simp at hln; omega
      | cons c l => exact ⟨c, l, rfl⟩
    refine ⟨_, rfl, _, _, c0, rfl, rfl, hs, ?_, _, _, rfl, rfl, _, rfl, ?_⟩
    · show atI _ _ = _
      exact atI_nat (j := 0) (by rw [hl0]; rfl)
    have gd : good z = (if c0 ∈ lowL.cps.toList then z.cps.toList.all chOk else false) := by
      unfold good
      rw [if_neg hm', if_neg (by omega), hl0]
      rfl
    by_cases hc : c0 ∈ lowL.cps.toList
    rotate_left
    · rw [decide_eq_false hc]
      refine iteT ?_
      exact hkf H (Same.refl H) (by rw [gd, if_neg hc])
    rw [decide_eq_true hc]
    refine iteF ?_
    rw [if_pos hc] at gd
    -- all([..])
    refine ⟨_, rfl, z, rfl, fun D hD => lc_it (walk_str (z := z)) (fun i H' => Same H H' ∧ H' D = some (.lst (((z.cps.toList.take i).map chOk).map V.bl))) ⟨?_, ?_⟩ (fun _ _ _ _ => trivial) ?_ ?_⟩
    · intro b o e
      rw [upd_ne (ne_of_none e hD)]
      exact e
    · rw [upd_same]
      rfl
    · intro i x H' H2 hi ⟨s1, s2⟩ ⟨e, c, hcc, ex⟩
      subst e
      subst ex
      have hcl : z.cps.toList[i]? = some c := by rw [Array.getElem?_toList]; exact hcc
      have step : Same H (upd H2 D (.lst (((z.cps.toList.take i).map chOk).map V.bl ++ [V.bl (chOk c)]))) ∧ (upd H2 D (.lst (((z.cps.toList.take i).map chOk).map V.bl ++ [V.bl (chOk c)]))) D = some (.lst (((z.cps.toList.take (i + 1)).map chOk).map V.bl)) := by
        refine ⟨fun b o e => ?_, ?_⟩
        · rw [upd_ne (ne_of_none e hD)]
          exact s1 b o e
        · rw [upd_same, List.take_succ, hcl]
          simp
      have hlen : (((z.cps.toList.take i).map chOk).map V.bl).length < sizeLine := by
        rw [List.length_map, List.length_map, List.length_take]
        exact small1000 (by omega)
      refine ⟨rfl, ?_⟩
      refine ⟨_, rfl, _, _, rfl, rfl, _, rfl, ?_⟩
      by_cases ha : c ∈ lowL.cps.toList
      · have ek : chOk c = true := by unfold chOk; rw [decide_eq_true ha]; rfl
        rw [ek] at step
        rw [decide_eq_true ha]
        refine iteT ?_
        exact ⟨_, s2, hlen, step⟩
      · have ek : chOk c = decide (c ∈ digL.cps.toList) := by unfold chOk; rw [decide_eq_false ha]; rfl
        rw [ek] at step
        rw [decide_eq_false ha]
        refine iteF ?_
        exact ⟨_, rfl, _, _, rfl, rfl, _, s2, hlen, step⟩
    · intro H' ⟨s1, s2⟩
      refine ⟨D, z.cps.toList.map chOk, rfl, ?_, ?_⟩
      · refine SqL.of ?_
        rw [s2, List.take_of_length_le (by rw [Array.length_toList]; exact Nat.le_refl _)]
      · have := k H' s1
        rw [gd] at this
        rw [List.all_map]
        exact this
end
end OS
namespace OS
open PySem L2
abbrev sSigns : Stmt := top 9
abbrev sGood : Stmt := top 10
abbrev sLaw : Stmt := top 11
abbrev sg1 : Str := " !\"#$&'()*+,-./0123456789:;<=>?@ABCDEFGHIJKLMNOPQRSTUVWXYZ[\\]^_`"
abbrev sg2 : Str := "abcdefghijklmnopqrstuvwxyz{|}~"
/-- _law_signs() hands back a text of 94 signs -/
def spSigns : Sp := fun vs H Q _ => vs = [] ∧ ∀ z : Str, z.length = 94 → Q (.str z) H
section
variable {P : Program} {w : World} {K : PySem.W.Frag} {mg : Str → Option Value} {base : Heap}
theorem scSigns : FnScope ["_law_signs_here"] [] (defScope sSigns) := ⟨rfl, rfl, rfl, by decide +kernel, rfl, by decide +kernel, by decide +kernel⟩
theorem ok_signs {f : Addr} {fd : FuncData} (F : Fun K "_law_signs" "_law_signs" sSigns f fd) : FnOk P w K mg base CX0 1 f fd [] spSigns := by
  refine F.ok scSigns (fun vs H Q E h => ?_) (fun cdv A outer s H vs Q E hr h => ?_)
  · obtain ⟨rfl, _⟩ := h
    rfl
  · obtain ⟨rfl, k⟩ := h
    refine ⟨_, pss_cons (ps_set (i := 0) scSigns.nd rfl (Or.inl rfl) pe_str) (pss_one (ps_ret (pe_op op_add_str (pv 0) pe_str))), ?_⟩
    refine ⟨_, rfl, _, _, rfl, rfl, (by decide +kernel), ?_⟩
    exact k _ (by decide +kernel)
abbrev nGood : List Str := ["_law_word", "_law_letters", "_law_char"]
theorem scGood : FnScope nGood ["_law_word"] (defScope sGood) := ⟨rfl, rfl, rfl, by decide +kernel, rfl, by decide +kernel, by decide +kernel⟩
theorem ok_good {f : Addr} {fd : FuncData} (F : Fun K "_law_good" "_law_good" sGood f fd) (T : Bi mg) (mA : mg "all" = none) : FnOk P w K mg base CX0 1 f fd ["_law_word"] spValid := by
  refine F.ok scGood (fun vs H Q E h => ?_) (fun cdv A outer s H vs Q E hr h => ?_)
  · obtain ⟨z, rfl, _⟩ := h
    rfl
  · obtain ⟨z, rfl, hz, k⟩ := h
    refine ⟨_, pss_cons (ps_set (i := 1) scGood.nd rfl (Or.inr rfl) pe_str)
      (pss_cons (ps_if (PW.pt (pw_or (pt_cmpR op_eq (pv 0) pe_str (nomark _)) (pw_or (pt_cmpR op_lt (pe_callB call_len_str (by rfl) T.len PySem.boot_len (pa_cons (pv 0) pa_nil)) pe_int (nomark _))
        (pw_or (pt_cmpR op_gt (pe_callB call_len_str (by rfl) T.len PySem.boot_len (pa_cons (pv 0) pa_nil)) pe_int (nomark _)) (pw_or1 (pt_cmpR op_notIn_sign (pe_ix ix_str (pv 0) pe_int fun _ _ => rfl) (pv 1) rfl)))))) (pss_one (ps_ret pe_bl)) pss_nil)
      (pss_one (ps_ret (pe_callB (cr_all rfl) (by rfl) mA (by decide +kernel) (pa_cons
        (pe_lc (own := [("_law_char", 2)]) (g := gName 2) (tt := tYes) rfl scGood.nd (pi_str (pv 0)) (blkOk_by (own := [("_law_char", 2)]) (N := nGood) (sc := defScope sGood) (by decide +kernel))
        (fun _ _ _ _ _ => pg_name (i := 2) scGood.nd rfl (Or.inl rfl)) (fun _ _ _ _ _ => pts_nil) (fun _ _ _ _ _ => pe_or (pe_cmpR op_in_sign (pv 2) (pv 1) rfl) (pe_one (pe_cmpR op_in_sign (pv 2) pe_str rfl)))) pa_nil))))), ?_⟩
    have hs : z.length ≤ sizeLine := Nat.le_of_lt (small1000 hz)
    have hln := Str.len_list z
    have edec : decide (V.str z = V.str "mod") = decide (z = "mod") := by
      by_cases h : z = "mod"
      · rw [decide_eq_true h, decide_eq_true (congrArg V.str h)]
      · rw [decide_eq_false h, decide_eq_false (fun e => h (V.str.inj e))]
    refine ⟨_, rfl, rfl, _, rfl, ?_⟩
    rw [edec]
    have hkf : ∀ H', Same H H' → good z = false → Q (.bl false) H' := fun H' s g => by have := k H' s; rwa [g] at this
    refine ite2 (fun hm => ?_) (fun hm => ?_)
    · exact hkf H (Same.refl H) (by unfold good; rw [if_pos (of_decide_eq_true hm)])
    have hm' : ¬ z = "mod" := fun e => hm (decide_eq_true e)
    have hkb : ∀ H', Same H H' → ¬ (1 ≤ z.length ∧ z.length ≤ 6) → Q (.bl false) H' := fun H' s g => hkf H' s (by unfold good; rw [if_neg hm', if_pos (by omega)])
    refine ⟨_, rfl, _, rfl, hs, _, _, rfl, rfl, _, rfl, ?_⟩
    refine ite2 (fun h1 => ?_) (fun h1 => ?_)
    · have h1' : (z.length : Int) < 1 := of_decide_eq_true h1
      exact hkb H (Same.refl H) (by omega)
    have h1' : ¬ (z.length : Int) < 1 := fun e => h1 (decide_eq_true e)
    refine ⟨_, rfl, _, rfl, hs, _, _, rfl, rfl, _, rfl, ?_⟩
    refine ite2 (fun h6 => ?_) (fun h6 => ?_)
    · have h6' : 6 < (z.length : Int) := of_decide_eq_true h6
      exact hkb H (Same.refl H) (by omega)
    have h6' : ¬ 6 < (z.length : Int) := fun e => h6 (decide_eq_true e)
    -- text[0] not in letters
    obtain ⟨c0, l0, hl0⟩ : ∃ c0 l0, z.cps.toList = c0 :: l0 := by
      cases e : z.cps.toList with
      | nil => rw [e] at hln; simp at hln; omega
      | cons c l => exact ⟨c, l, rfl⟩
    refine ⟨_, rfl, _, _, c0, rfl, rfl, hs, ?_, _, rfl, _, _, rfl, rfl, _, rfl, ?_⟩
    · show atI _ _ = _
      exact atI_nat (j := 0) (by rw [hl0]; rfl)
    have gd : good z = (if c0 ∈ lowL.cps.toList then z.cps.toList.all chOk else false) := by
      unfold good
      rw [if_neg hm', if_neg (by omega), hl0]
      rfl
    by_cases hc : c0 ∈ lowL.cps.toList
    rotate_left
    · rw [decide_eq_false hc]
      refine iteT ?_
      exact hkf H (Same.refl H) (by rw [gd, if_neg hc])
    rw [decide_eq_true hc]
    refine iteF ?_
    rw [if_pos hc] at gd
    -- all([..])
    refine ⟨_, rfl, z, rfl, fun D hD => lc_it (walk_str (z := z)) (fun i H' => Same H H' ∧ H' D = some (.lst (((z.cps.toList.take i).map chOk).map V.bl))) ⟨?_, ?_⟩ (fun _ _ _ _ => trivial) ?_ ?_⟩
    · intro b o e
      rw [upd_ne (ne_of_none e hD)]
      exact e
    · rw [upd_same]
      rfl
    · intro i x H' H2 hi ⟨s1, s2⟩ ⟨e, c, hcc, ex⟩
      subst e
      subst ex
      have hcl : z.cps.toList[i]? = some c := by rw [Array.getElem?_toList]; exact hcc
      have step : Same H (upd H2 D (.lst (((z.cps.toList.take i).map chOk).map V.bl ++ [V.bl (chOk c)]))) ∧ (upd H2 D (.lst (((z.cps.toList.take i).map chOk).map V.bl ++ [V.bl (chOk c)]))) D = some (.lst (((z.cps.toList.take (i + 1)).map chOk).map V.bl)) := by
        refine ⟨fun b o e => ?_, ?_⟩
        · rw [upd_ne (ne_of_none e hD)]
          exact s1 b o e
        · rw [upd_same, List.take_succ, hcl]
          simp
      have hlen : (((z.cps.toList.take i).map chOk).map V.bl).length < sizeLine := by
        rw [List.length_map, List.length_map, List.length_take]
        exact small1000 (by omega)
      refine ⟨rfl, ?_⟩
      refine ⟨_, rfl, _, rfl, _, _, rfl, rfl, _, rfl, ?_⟩
      by_cases ha : c ∈ lowL.cps.toList
      · have ek : chOk c = true := by unfold chOk; rw [decide_eq_true ha]; rfl
        rw [ek] at step
        rw [decide_eq_true ha]
        refine iteT ?_
        exact ⟨_, s2, hlen, step⟩
      · have ek : chOk c = decide (c ∈ digL.cps.toList) := by unfold chOk; rw [decide_eq_false ha]; rfl
        rw [ek] at step
        rw [decide_eq_false ha]
        refine iteF ?_
        exact ⟨_, rfl, _, _, rfl, rfl, _, s2, hlen, step⟩
    · intro H' ⟨s1, s2⟩
      refine ⟨D, z.cps.toList.map chOk, rfl, ?_, ?_⟩
      · refine SqL.of ?_
        rw [s2, List.take_of_length_le (by rw [Array.length_toList]; exact Nat.le_refl _)]
      · have := k H' s1
        rw [gd] at this
        rw [List.all_map]
        exact this
end
end OS
namespace OS
open PySem L2 PySem.Spec PyProof.Rows
section
variable {X : Cx} {CX : CXT} {k : Nat} {f : Addr} {fd : FuncData} {ps ks : List Str} {sp : Sp} {E : XK} {x : Str} {p pos : Pos} {kws : List Keyword} {tk : TA} {g : List Value → List Value → List Value} {gV : List V → List V → List V}
/-- f(k = v, ..), nothing by place -/
theorem pe_callN0 (F : FnOk X.prog X.w X.K X.mg X.base CX k f fd ps sp) (hr : Room k X.A) (hg : Gl X x) (hm : X.mg x = some (.ref f)) (hk : PySem.W.keepIn X.K (.ref f) = true) (hb : KBn X.K fd ps 0 ks g gV) (hx : Passes CX X E)
    (hkw : PK X kws tk) (hall : (backToKw pos (keywordEach kws X.env)).all (·.1.isSome) = true := by rfl) (hks : (backToKw pos (keywordEach kws X.env)).filterMap (·.1) = ks := by rfl)
    (hdb : (x == ("__debug__" : Str)) = false := by decide)
    (hpl : ((backTo pos (starEach [] X.env)).any (·.1) || (backToKw pos (keywordEach kws X.env)).any (·.1.isNone)) = false := by rfl) :
    PE X (.Call (.Name x p) [] kws pos) (tCallN 0 ks.length sp gV E tNil tk) := by
  refine ⟨fun pins s σ H Q I h => ?_⟩
  refine wpAny_Call_Name_kw (ld_glob I hg hm ?_ hdb)
  refine PySem.W.callWith_KW0 (h₀ := X.base) I.ok.mod.kin hk hall ?_ hpl
  refine thn (hkw.run pos pins s σ H _ I h) fun ws s2 ⟨zs, H2, I2, rz, l1, l2, q2⟩ => ⟨I2.kIn, ?_⟩
  rw [hks]
  exact run_fnN (us := []) (vs := []) F hr hb hx I2 .nil rz rfl l2 q2
end
/-- a def of the module's, by its name -/
structure Df (K : PySem.W.Frag) (mg : Str → Option Value) (x : Str) (f : Addr) : Prop where
  mg : mg x = some (.ref f)
  kp : PySem.W.keepIn K (.ref f) = true
/-- an object at b stays what it is behind a draw -/
theorem Kb.at {st cl b : Addr} {H H' : Hp} {o : HO} (k : Kb st cl H H') (e : H b = some o) (h1 : b ≠ st) (h2 : b ≠ cl) : H' b = some o := k b o e h1 h2
theorem StAt.upd {H : Hp} {st cl : Addr} {m : Nat} {D : Addr} {o : HO} (S : StAt H st cl m) (h1 : D ≠ st) (h2 : D ≠ cl) : StAt (upd H D o) st cl m := by
  obtain ⟨⟨p, c, a, b⟩, ⟨ns, e, l⟩, n⟩ := S
  exact ⟨⟨p, c, by rw [upd_ne h1.symm]; exact a, b⟩, ⟨ns, by rw [upd_ne h2.symm]; exact e, l⟩, n⟩
theorem StAt.nst {H : Hp} {st cl : Addr} {m : Nat} {D : Addr} (S : StAt H st cl m) (h : H D = none) : D ≠ st ∧ D ≠ cl := by
  obtain ⟨⟨p, c, a, b⟩, ⟨ns, e, l⟩, n⟩ := S
  exact ⟨(ne_of_none a h).symm, (ne_of_none e h).symm⟩
theorem StAt.same {H H' : Hp} {st cl : Addr} {m : Nat} (S : StAt H st cl m) (h : Same H H') : StAt H' st cl m := by
  obtain ⟨⟨p, c, a, b⟩, ⟨ns, e, l⟩, n⟩ := S
  exact ⟨⟨p, c, h _ _ a, b⟩, ⟨ns, h _ _ e, l⟩, n⟩
/-- a list of short texts at D -/
structure Chs (H : Hp) (D st cl : Addr) (n : Nat) : Prop where
  ex : ∃ ys : List Str, H D = some (.lst (ys.map V.str)) ∧ ys.length = n ∧ ∀ y ∈ ys, y.length = 1
  n1 : D ≠ st
  n2 : D ≠ cl
theorem sum_ones : ∀ ys : List Str, (∀ y ∈ ys, y.length = 1) → (ys.map (·.length)).sum = ys.length
  | [], _ => rfl
  | y :: ys, h => by
    rw [List.map_cons, List.sum_cons, sum_ones ys (fun z hz => h z (List.mem_cons_of_mem _ hz)), h y List.mem_cons_self, List.length_cons]
    omega
theorem len_app (x y : Str) : (x ++ y).length = x.length + y.length := by
  have e : (TL.tl (x ++ y)).length = (TL.tl x).length + (TL.tl y).length := by rw [TL.tl_append, List.length_append]
  rw [Str.len_list, Str.len_list, Str.len_list]
  exact e
theorem join0_len : ∀ ys : List Str, (∀ y ∈ ys, y.length = 1) → (Str.join (Str.ofString "") ys).length = ys.length
  | [], _ => rfl
  | [y], h => h y List.mem_cons_self
  | y :: z :: r, h => by
    show (y ++ (Str.ofString "") ++ Str.join (Str.ofString "") (z :: r)).length = _
    rw [len_app, len_app, join0_len (z :: r) fun q hq => h q (List.mem_cons_of_mem _ hq), h y List.mem_cons_self]
    have : (Str.ofString "").length = 0 := by decide +kernel
    rw [this]
    simp only [List.length_cons]
    omega
def spLaw (K : PySem.W.Frag) : Sp := fun vs H Q _ => ∃ (a : Addr) (ns : List Int), vs = [.ref a] ∧ SqL K H a (ns.map V.int) ∧ ns.length ≤ 63 ∧ ∀ H', Q (.bl true) H'
section
variable {P : Program} {w : World} {K : PySem.W.Frag} {mg : Str → Option Value} {base : Heap}
abbrev nLaw : List Str := ["_law_script", "_law_state", "_law_plan", "_law_size", "_law_signs_here", "_law_chars", "_law_spot", "_law_whole", "_law_word", "_law_actual", "_law_k"]
theorem scLaw : FnScope nLaw ["_law_script"] (defScope sLaw) := ⟨rfl, rfl, rfl, by decide +kernel, rfl, by decide +kernel, by decide +kernel⟩
theorem ok_law {f fS fT fG fO fV : Addr} {fd dS dT dG dO dV : FuncData} (F : Fun K "law" "law" sLaw f fd) (T : Bi mg) (mA : mg "all" = none) (mR : mg "range" = none) (mI : mg "isinstance" = none) (mB : mg "bool" = none)
    (ES : FnOk P w K mg base CX0 1 fS dS ["_law_script"] (spStart K)) (GS : Df K mg "_law_start" fS) (bS : Binds K dS ["_law_script"] [])
    (ET : FnOk P w K mg base CX0 1 fT dT ["_law_state", "_law_limit"] spTake) (GT : Df K mg "_law_take" fT) (bT : Binds K dT ["_law_state", "_law_limit"] [])
    (EG : FnOk P w K mg base CX0 1 fG dG [] spSigns) (GG : Df K mg "_law_signs" fG) (bG : Binds K dG [] [])
    (EO : FnOk P w K mg base CX0 1 fO dO ["_law_word"] spValid) (GO : Df K mg "_law_good" fO) (bO : Binds K dO ["_law_word"] [])
    (EV : FnOk P w K mg base CX0 1 fV dV ["text"] spValid) (GV : Df K mg "valid_name" fV) (bV : Binds K dV ["text"] []) (kV : KBn K dV ["text"] 0 ["text"] (fun us ws => ws) (fun vs zs => zs)) :
    FnOk P w K mg base CX0 2 f fd ["_law_script"] (spLaw K) := by
  refine F.ok scLaw (fun vs H Q E h => ?_) (fun cdv A outer s H vs Q E hr h => ?_)
  · obtain ⟨a, ns, rfl, _⟩ := h
    rfl
  · obtain ⟨a, ns, rfl, hS, hn, k⟩ := h
    refine ⟨_, pss_cons (ps_set (i := 1) scLaw.nd rfl (Or.inr rfl) (pe_call ES hr rfl GS.mg GS.kp bS .nil pass0 (pa_cons (pv 0) pa_nil)))
      (pss_cons (ps_set (i := 2) scLaw.nd rfl (Or.inl rfl) (pe_call ET hr rfl GT.mg GT.kp bT .nil pass0 (pa_cons (pv 1) (pa_cons pe_int pa_nil))))
      (pss_cons (ps_set (i := 3) scLaw.nd rfl (Or.inl rfl) (pe_call ET hr rfl GT.mg GT.kp bT .nil pass0 (pa_cons (pv 1) (pa_cons pe_int pa_nil))))
      (pss_cons (ps_set (i := 4) scLaw.nd rfl (Or.inr rfl) (pe_call0 EG hr rfl GG.mg GG.kp bG .nil pass0))
      (C8.pss_cut (ps_if (pt_cmpR op_eq (pv 2) pe_int (nomark _)) (pss_one (ps_set (i := 4) scLaw.nd rfl (Or.inr rfl) (pe_op op_add_str (pv 4) pe_str))) (pss_one (ps_set (i := 4) scLaw.nd rfl (Or.inr rfl) pe_str)))
      (pss_cons (ps_setLc (i := 5) (own := [("_law_k", 10)]) (g := gName 10) (tt := tYes) rfl scLaw.nd rfl rfl (sw_true rfl rfl rfl (by decide +kernel)) (pi_range1 rfl mR (pa_cons (pv 3) pa_nil)) (blkOk_by (own := [("_law_k", 10)]) (N := nLaw) (sc := defScope sLaw) (by decide +kernel))
        (fun _ _ _ _ _ => pg_name (i := 10) scLaw.nd rfl (Or.inl rfl)) (fun _ _ _ _ _ => pts_nil)
        (fun _ _ _ _ _ => pe_ix ix_str (pv 4) (pe_call ET hr rfl GT.mg GT.kp bT .nil pass0 (pa_cons (pv 1) (pa_cons (pe_callB call_len_str (by rfl) T.len PySem.boot_len (pa_cons (pv 4) pa_nil)) pa_nil))) fun _ _ => rfl))
      (C8.pss_cut (ps_if (PW.pt (pw_and (pt_cmpR op_eq (pv 2) pe_int (nomark _)) (pw_and1 (pt_cmpR op_gt (pv 3) pe_int (nomark _)))))
        (pss_cons (ps_set (i := 6) scLaw.nd rfl (Or.inl rfl) (pe_call ET hr rfl GT.mg GT.kp bT .nil pass0 (pa_cons (pv 1) (pa_cons (pv 3) pa_nil))))
        (pss_cons (ps_set (i := 7) scLaw.nd rfl (Or.inl rfl) (pe_op op_add_str (pe_call0 EG hr rfl GG.mg GG.kp bG .nil pass0) pe_str))
        (pss_one (ps_asg (pe_ix ix_str (pv 7) (pe_call ET hr rfl GT.mg GT.kp bT .nil pass0 (pa_cons (pv 1) (pa_cons (pe_callB call_len_str (by rfl) T.len PySem.boot_len (pa_cons (pv 7) pa_nil)) pa_nil))) fun _ _ => rfl) (pg_sub (pv 5) (pv 6) set_list))))) pss_nil)
      (pss_cons (ps_set (i := 8) scLaw.nd rfl (Or.inl rfl) (pe_join pe_str (pv 5)))
      (C8.pss_cut (ps_if (pt_cmpR op_eq (pv 2) pe_int (nomark _)) (pss_one (ps_set (i := 8) scLaw.nd rfl (Or.inl rfl) (pe_ix ix_list (pe_lst (pa_cons pe_str (pa_cons pe_str (pa_cons pe_str (pa_cons pe_str (pa_cons pe_str (pa_cons pe_str (pa_cons pe_str (pa_cons pe_str pa_nil)))))))))
          (pe_call ET hr rfl GT.mg GT.kp bT .nil pass0 (pa_cons (pv 1) (pa_cons pe_int pa_nil))) fun _ _ => rfl))) pss_nil)
      (pss_cons (ps_set (i := 9) scLaw.nd rfl (Or.inl rfl) (pe_call EV hr rfl GV.mg GV.kp bV .nil pass0 (pa_cons (pv 8) pa_nil)))
      (C8.pss_cut (ps_if (pt_cmpR op_eq (pe_call ET hr rfl GT.mg GT.kp bT .nil pass0 (pa_cons (pv 1) (pa_cons pe_int pa_nil))) pe_int (nomark _))
          (pss_one (ps_set (i := 9) scLaw.nd rfl (Or.inl rfl) (pe_callN0 EV hr rfl GV.mg GV.kp kV pass0 (pk_cons (pv 8) pk_nil)))) pss_nil)
      (pss_one (ps_ret (pe_and (pe_callB call_isi (by rfl) mI (by decide +kernel) (pa_cons (pv 9) (pa_cons (pe_bltn (v := V.ty "bool") (u := .type "bool") (by rfl) mB (by decide +kernel) rfl) pa_nil)))
          (pe_one (pe_cmpR op_eq (pv 9) (pe_call EO hr rfl GO.mg GO.kp bO .nil pass0 (pa_cons (pv 8) pa_nil)) (nomark _)))))))))))))))), ?_⟩
    refine ⟨_, rfl, a, ns, rfl, hS, hn, fun st cl H1 S1 s1 _ _ => ?_⟩
    refine ⟨_, rfl, st, cl, 0, 4, rfl, S1, by decide, by decide, by decide, fun plan H2 p0 p1 S2 k2 => ?_⟩
    refine ⟨_, rfl, st, cl, 1, 9, rfl, S2, by decide, by decide, by decide, fun size H3 z0 z1 S3 k3 => ?_⟩
    refine ⟨rfl, fun zs hzs => ?_⟩
    -- signs
    refine ⟨fun σ H' => H' = H3 ∧ ∃ z : Str, 0 < z.length ∧ z.length ≤ 200 ∧ σ = [some (.ref a), some (.ref st), some (.int plan), some (.int size), some (.str z), none, none, none, none, none, none], ?_, ?_⟩
    · refine ⟨_, rfl, rfl, _, rfl, ?_⟩
      refine ite2 (fun _ => ?_) (fun _ => ?_)
      · refine ⟨_, rfl, _, _, rfl, rfl, ?_, rfl, _, ?_, ?_, rfl⟩
        · rw [hzs]; exact Nat.le_of_lt (small1000 (by decide +kernel))
        · rw [len_app, hzs]; omega
        · rw [len_app, hzs]; decide +kernel
      · exact ⟨rfl, _, by decide +kernel, by decide +kernel, rfl⟩
    rintro σ' H' ⟨rfl, z, hz0, hz1, rfl⟩
    have hzl : z.length ≤ sizeLine := Nat.le_of_lt (small1000 (by omega))
    -- chars
    have hsz : (size - 0).toNat ≤ 8 := by omega
    refine ⟨_, rfl, _, rfl, (by omega), (by omega), fun D hD => lc_range (lo := 0) (n := size.toNat) (fun i H' => ∃ m, m ≤ 2 + i ∧ StAt H' st cl m ∧ Chs H' D st cl i) ?_ ?_ ?_⟩
    · obtain ⟨n1, n2⟩ := S3.nst hD
      exact ⟨2, Nat.le_refl _, S3.upd n1 n2, ⟨[], upd_same, rfl, fun y hy => by cases hy⟩, n1, n2⟩
    · rintro i H4 hi ⟨m, hm, S4, ⟨ys, hy, hyn, hy1⟩, n1, n2⟩
      refine ⟨rfl, ?_⟩
      refine ⟨_, rfl, _, rfl, _, rfl, _, rfl, hzl, st, cl, m, _, rfl, S4, by omega, by omega, by omega, fun c H5 c0 c1 S5 k5 => ?_⟩
      have hci : c.toNat < z.cps.toList.length := by have := Str.len_list z; omega
      refine ⟨_, _, _, rfl, rfl, hzl, atI_in c0 (List.getElem?_eq_getElem hci), ?_⟩
      refine ⟨_, k5.at hy n1 n2, ?_, m + 1, by omega, S5.upd n1 n2, ⟨ys ++ [⟨#[z.cps.toList[c.toNat]]⟩], ?_, by rw [List.length_append, hyn]; rfl, ?_⟩, n1, n2⟩
      · rw [List.length_map]
        exact small1000 (by omega)
      · rw [upd_same, List.map_append]
        rfl
      · intro y hy
        rcases List.mem_append.mp hy with h | h
        · exact hy1 y h
        · cases List.mem_singleton.mp h
          rfl
    · rintro H4 ⟨m, hm, S4, C4⟩
      -- one sign changed
      refine ⟨fun σ H' => (∃ m, m ≤ 20 ∧ StAt H' st cl m ∧ Chs H' D st cl size.toNat) ∧ ∃ v6 v7, σ = [some (.ref a), some (.ref st), some (.int plan), some (.int size), some (.str z), some (.ref D), v6, v7, none, none, none], ?_, ?_⟩
      · refine ⟨_, rfl, rfl, _, rfl, ?_⟩
        refine ite2 (fun _ => ?_) (fun _ => ?_)
        · refine ⟨_, rfl, _, _, rfl, rfl, _, rfl, ?_⟩
          refine ite2 (fun hz => ?_) (fun _ => ?_)
          · have hs0 : 0 < size := of_decide_eq_true hz
            refine ⟨_, rfl, _, rfl, st, cl, m, size, rfl, S4, by omega, by omega, by omega, fun sp H5 c0 c1 S5 k5 => ?_⟩
            refine ⟨rfl, fun zs hzs => ?_⟩
            refine ⟨_, _, rfl, rfl, ?_, ?_⟩
            · rw [hzs]; exact Nat.le_of_lt (small1000 (by decide +kernel))
            have hwl : (zs ++ (Str.ofString "\n")).length = 95 := by rw [len_app, hzs]; decide +kernel
            have hwL : (zs ++ (Str.ofString "\n")).length ≤ sizeLine := by rw [hwl]; exact Nat.le_of_lt (small1000 (by decide))
            refine ⟨_, rfl, _, rfl, _, rfl, _, rfl, hwL, st, cl, m + 1, _, rfl, S5, by omega, by omega, by omega, fun c H6 d0 d1 S6 k6 => ?_⟩
            obtain ⟨⟨ys, hy, hyn, hy1⟩, n1, n2⟩ := C4
            have hci : c.toNat < (zs ++ (Str.ofString "\n")).cps.toList.length := by have := Str.len_list (zs ++ (Str.ofString "\n")); omega
            refine ⟨_, _, _, rfl, rfl, hwL, atI_in d0 (List.getElem?_eq_getElem hci), ?_⟩
            have h6 := k6.at (k5.at hy n1 n2) n1 n2
            refine ⟨_, rfl, _, rfl, D, _, _, sp.toNat, rfl, rfl, h6, ixN_in c0 (by rw [List.length_map, hyn]; omega), ?_⟩
            refine ⟨⟨m + 2, by omega, S6.upd n1 n2, ⟨ys.set sp.toNat ⟨#[(zs ++ (Str.ofString "\n")).cps.toList[c.toNat]]⟩, ?_, by rw [List.length_set]; exact hyn, ?_⟩, n1, n2⟩, _, _, rfl⟩
            · rw [upd_same, List.map_set]
            · intro y hy
              rcases List.mem_or_eq_of_mem_set hy with h | h
              · exact hy1 y h
              · rw [h]; rfl
          · exact ⟨⟨m, by omega, S4, C4⟩, _, _, rfl⟩
        · exact ⟨⟨m, by omega, S4, C4⟩, _, _, rfl⟩
      rintro σ5 H5 ⟨⟨m5, hm5, S5, ⟨ys, hy, hyn, hy1⟩, n1, n2⟩, v6, v7, rfl⟩
      -- the word
      refine ⟨⟨_, rfl⟩, _, rfl, _, D, ys, rfl, rfl, .inl (SqL.of hy), ?_, ?_⟩
      · rw [sum_ones ys hy1, show (Str.ofString "").length = 0 by decide +kernel]
        omega
      refine ⟨fun σ H' => (∃ m, m ≤ 21 ∧ StAt H' st cl m) ∧ ∃ (wd : Str), wd.length ≤ 8 ∧ σ = [some (.ref a), some (.ref st), some (.int plan), some (.int size), some (.str z), some (.ref D), v6, v7, some (.str wd), none, none], ?_, ?_⟩
      · refine ⟨_, rfl, rfl, _, rfl, ?_⟩
        refine ite2 (fun _ => ?_) (fun _ => ?_)
        · refine ⟨by show 8 ≤ sizeLine; decide, fun L hL => ?_⟩
          obtain ⟨L1, L2⟩ := S5.nst hL
          refine ⟨_, rfl, st, cl, m5, 8, rfl, S5.upd L1 L2, by omega, by decide, by decide, fun c H6 c0 c1 S6 k6 => ?_⟩
          have hL6 := k6.at upd_same L1 L2
          obtain ⟨wd, hwd, hwl⟩ : ∃ wd : Str, ([V.str "mod", V.str "mo", V.str "mods", V.str "mod1", V.str "amod", V.str "Mod", V.str "dom", V.str "mo d"] : List V)[c.toNat]? = some (V.str wd) ∧ wd.length ≤ 8 := by
            have hc : c.toNat < 8 := by omega
            generalize c.toNat = j at hc
            match j, hc with
            | 0, _ => exact ⟨_, rfl, by decide +kernel⟩
            | 1, _ => exact ⟨_, rfl, by decide +kernel⟩
            | 2, _ => exact ⟨_, rfl, by decide +kernel⟩
            | 3, _ => exact ⟨_, rfl, by decide +kernel⟩
            | 4, _ => exact ⟨_, rfl, by decide +kernel⟩
            | 5, _ => exact ⟨_, rfl, by decide +kernel⟩
            | 6, _ => exact ⟨_, rfl, by decide +kernel⟩
            | 7, _ => exact ⟨_, rfl, by decide +kernel⟩
          refine ⟨L, _, _, V.str wd, rfl, rfl, SqL.of hL6, atI_in c0 hwd, ?_⟩
          exact ⟨⟨m5 + 1, by omega, S6⟩, wd, hwl, rfl⟩
        · refine ⟨⟨m5, by omega, S5⟩, _, ?_, rfl⟩
          rw [TL.join_eq, join0_len ys hy1]
          omega
      rintro σ6 H6 ⟨⟨m6, hm6, S6⟩, wd, hwd, rfl⟩
      refine ⟨_, rfl, wd, rfl, by omega, fun H7 s7 => ?_⟩
      have S7 := S6.same s7
      refine ⟨fun σ H' => (∃ m, m ≤ 22 ∧ StAt H' st cl m) ∧ σ = [some (.ref a), some (.ref st), some (.int plan), some (.int size), some (.str z), some (.ref D), v6, v7, some (.str wd), some (.bl (good wd)), none], ?_, ?_⟩
      · refine ⟨_, rfl, st, cl, m6, 2, rfl, S7, by omega, by decide, by decide, fun c H8 c0 c1 S8 k8 => ?_⟩
        refine ⟨rfl, _, rfl, ?_⟩
        refine ite2 (fun _ => ?_) (fun _ => ?_)
        · refine ⟨_, rfl, rfl, rfl, wd, rfl, by omega, fun H9 s9 => ?_⟩
          exact ⟨⟨m6 + 1, by omega, S8.same s9⟩, rfl⟩
        · exact ⟨⟨m6 + 1, by omega, S8⟩, rfl⟩
      rintro σ7 H8 ⟨⟨m8, hm8, S8⟩, rfl⟩
      refine ⟨_, rfl, _, _, _, _, true, rfl, .ty "bool", .base (.bl _), kit_ty (by decide +kernel), _, rfl, ?_⟩
      refine iteT ?_
      refine ⟨_, rfl, _, rfl, wd, rfl, by omega, fun H9 s9 => ?_⟩
      refine ⟨rfl, ?_⟩
      rw [decide_eq_true rfl]
      exact k H9
end
end OS
namespace OS
open PySem L2
theorem all_mk {l : PySem.W.OpenLaw} {w : World} {K : PySem.W.Frag} {h : Heap} {mg : Str → Option Value} {fa f1 f2 f3 f4 f5 f6 : Addr} (X : K.In h) (G : h.Ns mainGlobals mg) (hfa : mg "law" = some (.ref fa))
    {od1 an1 od2 an2 od3 an3 od4 an4 od5 an5 od6 an6 : Option Addr} {sl1 sl2 sl3 sl4 sl5 sl6 : Array (Option Value)} {oc1 kV1 dc1 pm1 cd1 ct1 oc2 kV2 dc2 pm2 cd2 ct2 oc3 kV3 dc3 pm3 cd3 ct3 oc4 kV4 dc4 pm4 cd4 ct4 oc5 kV5 dc5 pm5 cd5 ct5 oc6 kV6 dc6 pm6 cd6 ct6 : Value} {t1 t2 t3 t4 : Tok}
    (a1 : PySem.W.nsIn K mainGlobals "_law_start" = some (some (.ref f1))) (l1 : K.lookup f1 = some ⟨oc1, od1, .func (PySem.W.fnOf "_law_start" "_law_start" (defArgs sStart) (defBody sStart) (defScope sStart) .none kV1 dc1 pm1 an1 cd1 ct1), sl1⟩) (c1 : PySem.W.codeIn K cd1 "_law_start" = true) (k1 : PySem.W.keepIn K (.ref f1) = true)
    (a2 : PySem.W.nsIn K mainGlobals "_law_take" = some (some (.ref f2))) (l2 : K.lookup f2 = some ⟨oc2, od2, .func (PySem.W.fnOf "_law_take" "_law_take" (defArgs sTake) (defBody sTake) (defScope sTake) .none kV2 dc2 pm2 an2 cd2 ct2), sl2⟩) (c2 : PySem.W.codeIn K cd2 "_law_take" = true) (k2 : PySem.W.keepIn K (.ref f2) = true)
    (a3 : PySem.W.nsIn K mainGlobals "_law_signs" = some (some (.ref f3))) (l3 : K.lookup f3 = some ⟨oc3, od3, .func (PySem.W.fnOf "_law_signs" "_law_signs" (defArgs sSigns) (defBody sSigns) (defScope sSigns) .none kV3 dc3 pm3 an3 cd3 ct3), sl3⟩) (c3 : PySem.W.codeIn K cd3 "_law_signs" = true) (k3 : PySem.W.keepIn K (.ref f3) = true)
    (a4 : PySem.W.nsIn K mainGlobals "_law_good" = some (some (.ref f4))) (l4 : K.lookup f4 = some ⟨oc4, od4, .func (PySem.W.fnOf "_law_good" "_law_good" (defArgs sGood) (defBody sGood) (defScope sGood) .none kV4 dc4 pm4 an4 cd4 ct4), sl4⟩) (c4 : PySem.W.codeIn K cd4 "_law_good" = true) (k4 : PySem.W.keepIn K (.ref f4) = true)
    (a5 : PySem.W.nsIn K mainGlobals "valid_name" = some (some (.ref f5))) (l5 : K.lookup f5 = some ⟨oc5, od5, .func (PySem.W.fnOf "valid_name" "valid_name" (defArgs sValid) (defBody sValid) (defScope sValid) .none kV5 dc5 pm5 an5 cd5 ct5), sl5⟩) (c5 : PySem.W.codeIn K cd5 "valid_name" = true) (k5 : PySem.W.keepIn K (.ref f5) = true)
    (a6 : PySem.W.nsIn K mainGlobals "law" = some (some (.ref f6))) (l6 : K.lookup f6 = some ⟨oc6, od6, .func (PySem.W.fnOf "law" "law" (defArgs sLaw) (defBody sLaw) (defScope sLaw) .none kV6 dc6 pm6 an6 cd6 ct6), sl6⟩) (c6 : PySem.W.codeIn K cd6 "law" = true) (k6 : PySem.W.keepIn K (.ref f6) = true)
    (m1 : PySem.W.nsIn K mainGlobals "MOST_CHARACTERS" = some (some (.int 6 t1))) (m2 : PySem.W.nsIn K mainGlobals "LETTERS" = some (some (.str lowL t2))) (m3 : PySem.W.nsIn K mainGlobals "DIGITS" = some (some (.str digL t3))) (m4 : PySem.W.nsIn K mainGlobals "RESERVED" = some (some (.str "mod" t4)))
    (z1 : PySem.W.nsIn K mainGlobals "len" = some none) (z2 : PySem.W.nsIn K mainGlobals "int" = some none) (z3 : PySem.W.nsIn K mainGlobals "max" = some none) (z4 : PySem.W.nsIn K mainGlobals "abs" = some none) (z5 : PySem.W.nsIn K mainGlobals "all" = some none) (z6 : PySem.W.nsIn K mainGlobals "range" = some none) (z7 : PySem.W.nsIn K mainGlobals "isinstance" = some none) (z8 : PySem.W.nsIn K mainGlobals "bool" = some none) :
    ∃ fd : FuncData, (∀ (s : Shared) (v : Value), BindsTo s fd ⟨[v], []⟩ [("_law_script", v)]) ∧ ∀ base : Heap, K.In base → base.Ns mainGlobals mg → FnOk l.prog w K mg base CX0 2 fa fd ["_law_script"] (spLaw K) := by
  have e := hfa.symm.trans (PySem.W.mg_of X G a6)
  cases e
  have T : Bi mg := ⟨PySem.W.mg_none_of X G z1, PySem.W.mg_none_of X G z2, PySem.W.mg_none_of X G z3, PySem.W.mg_none_of X G z4⟩
  have N : Nm mg := ⟨⟨_, PySem.W.mg_of X G m1⟩, ⟨_, PySem.W.mg_of X G m2⟩, ⟨_, PySem.W.mg_of X G m3⟩, ⟨_, PySem.W.mg_of X G m4⟩, PySem.W.mg_none_of X G z5⟩
  have F1 := fun_mk (st := sStart) l1 c1 k1
  have F2 := fun_mk (st := sTake) l2 c2 k2
  have F3 := fun_mk (st := sSigns) l3 c3 k3
  have F4 := fun_mk (st := sGood) l4 c4 k4
  have F5 := fun_mk (st := sValid) l5 c5 k5
  have F6 := fun_mk (st := sLaw) l6 c6 k6
  have b1 := F1.binds (ps := ["_law_script"]) fun _ _ _ _ _ _ us hl => match us, hl with | [_], _ => rfl
  have b2 := F2.binds (ps := ["_law_state", "_law_limit"]) fun _ _ _ _ _ _ us hl => match us, hl with | [_, _], _ => rfl
  have b3 := F3.binds (ps := []) fun _ _ _ _ _ _ us hl => match us, hl with | [], _ => rfl
  have b4 := F4.binds (ps := ["_law_word"]) fun _ _ _ _ _ _ us hl => match us, hl with | [_], _ => rfl
  have b5 := F5.binds (ps := ["text"]) fun _ _ _ _ _ _ us hl => match us, hl with | [_], _ => rfl
  have kb : KBn K (PySem.W.fnOf "valid_name" "valid_name" (defArgs sValid) (defBody sValid) (defScope sValid) .none kV5 dc5 pm5 an5 cd5 ct5) ["text"] 0 ["text"] (fun us ws => ws) (fun vs zs => zs) :=
    ⟨fun s us ws _ hu hw => match us, ws, hu, hw with | [], [_], _, _ => .of_eq rfl, fun _ r => r⟩
  exact ⟨_, fun s v => .of_eq rfl, fun base _ _ => ok_law F6 T (PySem.W.mg_none_of X G z5) (PySem.W.mg_none_of X G z6) (PySem.W.mg_none_of X G z7) (PySem.W.mg_none_of X G z8)
    (ok_start F1 T) ⟨PySem.W.mg_of X G a1, k1⟩ b1 (ok_take F2 T) ⟨PySem.W.mg_of X G a2, k2⟩ b2 (ok_signs F3) ⟨PySem.W.mg_of X G a3, k3⟩ b3 (ok_good F4 T (PySem.W.mg_none_of X G z5)) ⟨PySem.W.mg_of X G a4, k4⟩ b4 (ok_valid F5 T N) ⟨PySem.W.mg_of X G a5, k5⟩ b5 kb⟩
theorem walk {l : PySem.W.OpenLaw} {q : Program} {loose : List Str} {XP : (Str → Option Value) → Heap → Prop} {YP : World → Heap → Prop} {d : DefRec} {K : Params → PySem.W.Frag} (hn : l.most = some 63) (hdf : d.params.defaults = [])
    (hY : ∀ (w : World) (h : Heap), YP w h → (K w.params).In h)
    (F : ∀ (w : World) (mg : Str → Option Value) (fa : Addr) (h : Heap), (K w.params).In h → h.Ns mainGlobals mg → mg d.name = some (.ref fa) →
      ∃ fd : FuncData, (∀ (s : Shared) (u : Value), BindsTo s fd ⟨[u], []⟩ [("_law_script", u)]) ∧ ∀ base : Heap, (K w.params).In base → base.Ns mainGlobals mg → FnOk l.prog w (K w.params) mg base CX0 2 fa fd ["_law_script"] (spLaw (K w.params))) :
    PySem.W.WalkO q loose XP YP l.row.toRowW d [] (fun f vs => PySem.call f vs) :=
  L2.walk_of (n := 63) (k := 2) (x := "_law_script") (CX := fun _ => CX0) (sp := fun w => spLaw (K w.params)) hn (by decide) hdf ⟨rfl, by decide, by decide⟩ hY F (fun _ _ a ns hl _ hS => ⟨a, ns, rfl, hS, hl, fun _ => rfl⟩) fun _ _ _ _ _ z => z
end OS
open PySem PySem.W PyProof.Rows
set_option maxRecDepth 100000 in
set_option maxHeartbeats 0 in
theorem PySem.Challenge.cw_oneshard_k01_valid_names_holds : PySem.Challenge.rw_oneshard_k01_valid_names.Holds := by
  w_on; o_law; k_head; (case hw => w_witness2)
  k_fill
  refine OS.walk (l := PySem.Challenge.rw_oneshard_k01_valid_names) rfl rfl (fun w h Y => PySem.W.kIn_of Y) ?F
  case F =>
    intro w mg fa h KX G hmg
    refine' OS.all_mk KX G hmg ?a1 ?l1 ?c1 ?k1 ?a2 ?l2 ?c2 ?k2 ?a3 ?l3 ?c3 ?k3 ?a4 ?l4 ?c4 ?k4 ?a5 ?l5 ?c5 ?k5 ?a6 ?l6 ?c6 ?k6 ?m1 ?m2 ?m3 ?m4 ?z1 ?z2 ?z3 ?z4 ?z5 ?z6 ?z7 ?z8
    (case a1 => k_is); (case l1 => k_is); (case c1 => k_is); (case k1 => k_is)
    (case a2 => k_is); (case l2 => k_is); (case c2 => k_is); (case k2 => k_is)
    (case a3 => k_is); (case l3 => k_is); (case c3 => k_is); (case k3 => k_is)
    (case a4 => k_is); (case l4 => k_is); (case c4 => k_is); (case k4 => k_is)
    (case a5 => k_is); (case l5 => k_is); (case c5 => k_is); (case k5 => k_is)
    (case a6 => k_is); (case l6 => k_is); (case c6 => k_is); (case k6 => k_is)
    (case m1 => k_is); (case m2 => k_is); (case m3 => k_is); (case m4 => k_is)
    (case z1 => k_is); (case z2 => k_is); (case z3 => k_is); (case z4 => k_is); (case z5 => k_is); (case z6 => k_is); (case z7 => k_is); (case z8 => k_is)
#print axioms PySem.Challenge.cw_oneshard_k01_valid_names_holds

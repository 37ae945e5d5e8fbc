import PyProof.Rows.All
import Wide.All
import OpenK.AllK
import Wide.FinOn
import HandS.Base
import HandS.Call
import HandS.List
import HandS.Comp
import HandS.Ends
import HandS.Dict
import HandS.Iter
import HandS.Text
import HandS.Words
import HandS.WordsList
import HandS.WordsDict
import HandS.Walk
import HandS.IsInst
import HandS.Defaults
import HandS.Codes
import HandS.More
import HandS.DictComp
import HandS.FStr
import HandS.OwnEq
import HandS.Property
import HandS.Style
import HandS.StrMore
import KE.KCallOwn
import KE.KOpsOwn
import PySem.Challenge.RW_oneshard_k05_form_text
set_option Elab.async false
set_option linter.all false
set_option maxRecDepth 100000
set_option maxHeartbeats 2000000
namespace OS
open PySem L2
def top (i : Nat) : Stmt := PySem.Challenge.pw_oneshard_k05_form_text.main.body.getD i (.Pass ⟨0, 0, 0, 0⟩)
abbrev sBadName_init : Stmt := inClass (top 2) 0
abbrev sUnknownName_init : Stmt := inClass (top 3) 0
abbrev sValid : Stmt := top 9
abbrev sDec : Stmt := top 13
abbrev sSgn : Stmt := top 14
abbrev sTerm : Stmt := top 15
abbrev sForm_init : Stmt := inClass (top 16) 0
abbrev sForm_coefficients : Stmt := inClass (top 16) 1
abbrev sForm_constant : Stmt := inClass (top 16) 2
abbrev sForm_getitem : Stmt := inClass (top 16) 3
abbrev sForm_contains : Stmt := inClass (top 16) 4
abbrev sForm_iter : Stmt := inClass (top 16) 5
abbrev sForm_len : Stmt := inClass (top 16) 6
abbrev sForm_eq : Stmt := inClass (top 16) 7
abbrev sForm_neg : Stmt := inClass (top 16) 8
abbrev sForm_add : Stmt := inClass (top 16) 9
abbrev sForm_radd : Stmt := inClass (top 16) 10
abbrev sForm_sub : Stmt := inClass (top 16) 11
abbrev sForm_rsub : Stmt := inClass (top 16) 12
abbrev sForm_mul : Stmt := inClass (top 16) 13
abbrev sForm_rmul : Stmt := inClass (top 16) 14
abbrev sForm_call : Stmt := inClass (top 16) 15
abbrev sForm_str : Stmt := inClass (top 16) 16
abbrev sStart : Stmt := top 18
abbrev sTake : Stmt := top 19
abbrev s_name : Stmt := top 20
abbrev s_integer : Stmt := top 21
abbrev s_parts : Stmt := top 22
abbrev s_text : Stmt := top 23
abbrev sLaw : Stmt := top 24
end OS
namespace OS
open PySem L2
/-- but for st and cl all that was tracked is as it was -/
def Kb (st cl : Addr) (H H' : Hp) : Prop := ∀ b o, H b = some o → b ≠ st → b ≠ cl → H' b = some o
/-- the drawing state: its cells at cl, at most m draws so far -/
structure StAt (H : Hp) (st cl : Addr) (m : Nat) : Prop where
  ob : ∃ p c : Int, H st = some (.lst [.ref cl, .int p, .int c]) ∧ 0 ≤ c ∧ c ≤ m
  cs : ∃ ns : List Int, H cl = some (.lst (ns.map V.int)) ∧ ns.length ≤ 63
  ne : st ≠ cl
structure Bi (mg : Str → Option Value) : Prop where
  len : mg "len" = none
  int : mg "int" = none
  max : mg "max" = none
  abs : mg "abs" = none
def spTake : Sp := fun vs H Q _ => ∃ (st cl : Addr) (m : Nat) (lim : Int), vs = [.ref st, .int lim] ∧ StAt H st cl m ∧ m ≤ 1000000000 ∧ 0 < lim ∧ lim < 1073741824 ∧
  ∀ (n : Int) (H' : Hp), 0 ≤ n → n < lim → StAt H' st cl (m + 1) → Kb st cl H H' → Q (.int n) H'
theorem fmod_in {i j : Int} (h : 0 < j) : 0 ≤ i.fmod j ∧ i.fmod j < j := ⟨Int.fmod_nonneg_of_pos _ h, Int.fmod_lt_of_pos _ h⟩
theorem getD_int {ns : List Int} {k : Int} (h0 : 0 ≤ k) (h1 : k < (ns.length : Int)) : ∃ z : Int, (ns.map V.int)[k.toNat]? = some (V.int z) ∧ ns[k.toNat]? = some z := by
  have hk : k.toNat < ns.length := by omega
  refine ⟨ns[k.toNat], ?_, List.getElem?_eq_getElem hk⟩
  rw [List.getElem?_map, List.getElem?_eq_getElem hk]
  rfl
theorem ixN_in {n : Nat} {k : Int} (h0 : 0 ≤ k) (h1 : k < (n : Int)) : ixN n k = some k.toNat := by
  unfold ixN
  rw [if_pos h0, if_pos h1]
theorem atI_in {α : Type} {xs : List α} {k : Int} {v : α} (h0 : 0 ≤ k) (h : xs[k.toNat]? = some v) : atI xs k = some v := by
  have := atI_nat h
  rwa [Int.toNat_of_nonneg h0] at this
section
variable {P : Program} {w : World} {K : PySem.W.Frag} {mg : Str → Option Value} {base : Heap}
abbrev nTake : List Str := ["_law_state", "_law_limit", "_law_cells", "_law_at", "_law_cell", "_law_number"]
theorem scTake : FnScope nTake ["_law_state", "_law_limit"] (defScope sTake) := ⟨rfl, rfl, rfl, by decide +kernel, rfl, by decide +kernel, by decide +kernel⟩
theorem ok_take {f : Addr} {fd : FuncData} (F : Fun K "_law_take" "_law_take" sTake f fd) (T : Bi mg) : FnOk P w K mg base CX0 1 f fd ["_law_state", "_law_limit"] spTake := by
  refine F.ok scTake (fun vs H Q E h => ?_) (fun cdv A outer s H vs Q E hr h => ?_)
  · obtain ⟨st, cl, m, lim, rfl, _⟩ := h
    rfl
  · obtain ⟨st, cl, m, lim, rfl, S, hm, hl0, hl1, k⟩ := h
    obtain ⟨⟨p, c, hst, hc0, hc1⟩, ⟨ns, hcl, hn⟩, hne⟩ := S
    refine ⟨_, pss_cons (ps_set (i := 2) scTake.nd rfl (Or.inl rfl) (pe_ix ix_list (pv 0) pe_int fun _ _ => rfl))
      (pss_cons (ps_asg (pe_op op_add (pe_ix ix_list (pv 0) pe_int fun _ _ => rfl) pe_int) (pg_sub (pv 0) pe_int set_list))
      (pss_cons (ps_set (i := 3) scTake.nd rfl (Or.inl rfl) (pe_op op_modN (pe_callTy call_int1 (by rfl) T.int (by decide +kernel) (pa_cons (pe_ix ix_list (pv 0) pe_int fun _ _ => rfl) pa_nil))
          (pe_callB (call_max2 rfl) (by rfl) T.max (by decide +kernel) (pa_cons pe_int (pa_cons (pe_callB call_len_seq (by rfl) T.len PySem.boot_len (pa_cons (pv 2) pa_nil)) pa_nil)))))
      (pss_cons (ps_set (i := 4) scTake.nd rfl (Or.inl rfl) pe_int)
      (pss_cons (ps_if (pt_truth (pv 2) (by intro _; rfl)) (pss_one (ps_set (i := 4) scTake.nd rfl (Or.inl rfl) (pe_ix ix_list (pv 2) (pv 3) fun _ _ => rfl))) pss_nil)
      (pss_cons (ps_if (pt_cmpR op_ge (pe_callB call_abs (by rfl) T.abs (by decide +kernel) (pa_cons (pv 4) pa_nil)) (pe_op op_pow pe_int pe_int) (nomark _))
        (pss_cons (ps_asg (pe_op op_fdivN (pe_callB call_abs (by rfl) T.abs (by decide +kernel) (pa_cons (pv 4) pa_nil)) (pv 1)) (pg_sub (pv 2) (pv 3) set_list))
          (pss_one (ps_ret (pe_op op_modN (pe_callB call_abs (by rfl) T.abs (by decide +kernel) (pa_cons (pv 4) pa_nil)) (pv 1))))) pss_nil)
      (pss_cons (ps_asg (pe_op op_add (pe_ix ix_list (pv 0) pe_int fun _ _ => rfl) pe_int) (pg_sub (pv 0) pe_int set_list))
      (pss_cons (ps_set (i := 5) scTake.nd rfl (Or.inl rfl) (pe_op op_modN (pe_op op_pow (pe_callTy call_int1 (by rfl) T.int (by decide +kernel) (pa_cons (pe_op op_add (pe_op op_add (pe_op op_mul (pe_op op_modN (pe_callTy call_int1 (by rfl) T.int (by decide +kernel) (pa_cons (pv 4) pa_nil)) pe_int) pe_int) (pe_op op_mul (pe_ix ix_list (pv 0) pe_int fun _ _ => rfl) pe_int)) pe_int) pa_nil)) pe_int) pe_int))
      (pss_cons (ps_set (i := 5) scTake.nd rfl (Or.inl rfl) (pe_op op_modN (pe_op op_pow (pe_callTy call_int1 (by rfl) T.int (by decide +kernel) (pa_cons (pe_op op_add (pe_op op_add (pe_op op_mul (pv 5) pe_int) (pe_op op_mul (pe_ix ix_list (pv 0) pe_int fun _ _ => rfl) pe_int)) pe_int) pa_nil)) pe_int) pe_int))
      (pss_one (ps_ret (pe_op op_modN (pe_op op_fdivN (pv 5) pe_int) (pv 1)))))))))))), ?_⟩
    have a0 : atI [V.ref cl, V.int p, V.int c] 0 = some (V.ref cl) := rfl
    refine ⟨_, rfl, st, _, _, _, rfl, rfl, SqL.of hst, a0, ?_⟩
    -- state[2] = state[2] + 1
    refine ⟨_, rfl, st, _, _, V.int c, rfl, rfl, SqL.of hst, rfl, _, _, rfl, rfl, ?_⟩
    refine ⟨_, rfl, st, _, _, 2, rfl, rfl, hst, rfl, ?_⟩
    have h1 : ∀ o, (upd H st o) cl = some (.lst (ns.map V.int)) := fun o => by rw [upd_ne hne.symm]; exact hcl
    -- at = int(state[1]) % max(1, len(cells))
    refine ⟨_, rfl, st, _, _, V.int p, rfl, rfl, SqL.of upd_same, rfl, .inl ⟨_, rfl, ?_⟩⟩
    refine ⟨_, rfl, cl, ns.map V.int, rfl, .inl (SqL.of (h1 _)), _, _, rfl, ?_⟩
    have hL : (((ns.map V.int).length : Nat) : Int) = (ns.length : Int) := by rw [List.length_map]
    rw [hL]
    have hmx : ∃ mx : Int, (if (ns.length : Int) > 1 then (ns.length : Int) else 1) = mx ∧ 0 < mx ∧ (0 < ns.length → mx ≤ ns.length) := by
      refine ⟨_, rfl, ?_, fun _ => ?_⟩
      · split <;> omega
      · split <;> omega
    obtain ⟨mx, emx, mx0, mx1⟩ := hmx
    rw [emx]
    refine ⟨_, _, rfl, rfl, (by omega), ?_⟩
    obtain ⟨ka, kb⟩ := fmod_in (i := p) mx0
    obtain ⟨at_, hat⟩ : ∃ a, a = p.fmod mx := ⟨_, rfl⟩
    rw [← hat] at ka kb
    -- cell = 0; if cells: cell = cells[at]
    refine ⟨_, rfl, _, .inl ⟨_, SqL.of (h1 _), rfl⟩, ?_⟩
    show if (!(ns.map V.int).isEmpty) = true then _ else _
    have hE : (!(ns.map V.int).isEmpty) = decide (0 < ns.length) := by cases ns <;> simp
    rw [hE]
    rw [show (fun i j => V.int (Int.fmod i j)) p mx = V.int at_ by rw [hat]]
    have h10 : ((10 : Int) ^ (18 : Int).toNat) = 1000000000000000000 := by decide
    by_cases hp : 0 < ns.length
    all_goals first
      | have hp' : 0 < ns.length := hp
        rw [decide_eq_true hp]
        refine iteT ?_
        obtain ⟨z, hz1, hz2⟩ := getD_int (ns := ns) (k := at_) ka (by have := mx1 hp; omega)
        refine ⟨_, rfl, _, rfl, cl, _, _, V.int z, rfl, rfl, SqL.of (h1 _), atI_in ka hz1, ?_⟩
        have hz : z = 0 ∨ at_ < (ns.length : Int) := .inr (by have := mx1 hp; omega)
      | have hp' : ¬ 0 < ns.length := hp
        rw [decide_eq_false hp]
        refine iteF ?_
        obtain ⟨z, ez⟩ : ∃ z : Int, z = 0 := ⟨0, rfl⟩
        rw [show (some (V.int 0) : Option V) = some (V.int z) by rw [ez]]
        have hz : z = 0 ∨ at_ < (ns.length : Int) := .inl ez
    all_goals
      refine ⟨_, rfl, _, rfl, _, _, rfl, rfl, ⟨by decide, by decide, by decide⟩, _, _, rfl, rfl, _, rfl, ?_⟩
      rw [h10]
      obtain ⟨az, haz⟩ : ∃ az, az = (if z < 0 then -z else z) := ⟨_, rfl⟩
      have haz0 : 0 ≤ az := by rw [haz]; split <;> omega
      rw [← haz]
      refine ite2 (fun hb => ?_) (fun hb => ?_)
      · have hb' : (1000000000000000000 : Int) ≤ az := of_decide_eq_true hb
        have hat2 : at_ < (ns.length : Int) := by
          rcases hz with h | h
          · subst h; rw [haz] at hb'; simp at hb'
          · exact h
        refine ⟨_, rfl, _, rfl, _, rfl, _, _, rfl, rfl, ⟨by omega, by omega⟩, ?_⟩
        refine ⟨_, rfl, _, rfl, cl, _, _, at_.toNat, rfl, rfl, h1 _, ixN_in ka (by rw [List.length_map]; exact hat2), ?_⟩
        refine ⟨_, rfl, _, rfl, _, rfl, _, _, rfl, rfl, (by omega), ?_⟩
        rw [← haz]
        obtain ⟨k0, k1⟩ := fmod_in (i := az) hl0
        refine k _ _ k0 k1 ⟨⟨p, c + 1, ?_, by omega, by push_cast; omega⟩, ⟨ns.set at_.toNat (az.fdiv lim), ?_, by rw [List.length_set]; exact hn⟩, hne⟩ ?_
        · rw [upd_ne hne, upd_same]
          rfl
        · rw [upd_same, List.map_set]
        · intro b o e hb1 hb2
          rw [upd_ne hb2, upd_ne hb1]
          exact e
      · -- state[1] = state[1] + 1
        refine ⟨_, rfl, st, _, _, V.int p, rfl, rfl, SqL.of upd_same, rfl, _, _, rfl, rfl, ?_⟩
        refine ⟨_, rfl, st, _, _, 1, rfl, rfl, upd_same, rfl, ?_⟩
        -- number
        have r1 : ∀ i : Int, 0 ≤ i.fmod 2147483647 ∧ i.fmod 2147483647 < 2147483647 := fun i => fmod_in (by decide)
        obtain ⟨y1, hy1⟩ : ∃ y, y = z.fmod 2147483647 := ⟨_, rfl⟩
        obtain ⟨q1, q2⟩ := r1 z
        rw [← hy1] at q1 q2
        refine ⟨_, rfl, .inl ⟨_, rfl, ?_⟩⟩
        refine ⟨_, _, rfl, rfl, (by show (_ : Int) ≠ 0; decide), ?_⟩
        rw [show (fun i j => V.int (Int.fmod i j)) z 2147483647 = V.int y1 by rw [hy1]]
        refine ⟨_, _, rfl, rfl, .inl ⟨by omega, by omega⟩, ?_⟩
        refine ⟨_, rfl, st, _, _, V.int (c + 1), rfl, rfl, SqL.of upd_same, rfl, _, _, rfl, rfl, .inl ⟨by omega, by omega⟩, ?_⟩
        refine ⟨_, _, rfl, rfl, _, _, rfl, rfl, .inl ⟨_, rfl, ?_⟩⟩
        refine ⟨_, _, rfl, rfl, ⟨by decide, by decide, ?_⟩, ?_⟩
        · show (y1 * 48271 + (c + 1) * 69621 + 11).natAbs < 2 ^ 64
          omega
        refine ⟨_, _, rfl, rfl, (by show (_ : Int) ≠ 0; decide), ?_⟩
        obtain ⟨q3, q4⟩ := r1 ((y1 * 48271 + (c + 1) * 69621 + 11) ^ (5 : Int).toNat)
        obtain ⟨y2, hy2⟩ : ∃ y, y = ((y1 * 48271 + (c + 1) * 69621 + 11) ^ (5 : Int).toNat).fmod 2147483647 := ⟨_, rfl⟩
        rw [← hy2] at q3 q4
        refine ⟨_, rfl, _, _, rfl, rfl, .inl ⟨?_, ?_⟩, ?_⟩
        · show -(2 ^ 64) < (((y1 * 48271 + (c + 1) * 69621 + 11) ^ (5 : Int).toNat).fmod 2147483647)
          rw [← hy2]; omega
        · show (((y1 * 48271 + (c + 1) * 69621 + 11) ^ (5 : Int).toNat).fmod 2147483647) < 2 ^ 64
          rw [← hy2]; omega
        refine ⟨_, rfl, st, _, _, V.int (c + 1), rfl, rfl, SqL.of upd_same, rfl, _, _, rfl, rfl, .inl ⟨by omega, by omega⟩, ?_⟩
        refine ⟨_, _, rfl, rfl, _, _, rfl, rfl, .inl ⟨_, rfl, ?_⟩⟩
        refine ⟨_, _, rfl, rfl, ⟨by decide, by decide, ?_⟩, ?_⟩
        · show ((((y1 * 48271 + (c + 1) * 69621 + 11) ^ (5 : Int).toNat).fmod 2147483647) * 16807 + (c + 1) * 40692 + 7).natAbs < 2 ^ 64
          rw [← hy2]; omega
        refine ⟨_, _, rfl, rfl, (by show (_ : Int) ≠ 0; decide), ?_⟩
        refine ⟨_, rfl, _, _, rfl, rfl, ⟨by decide, by decide⟩, _, rfl, _, _, rfl, rfl, (by omega), ?_⟩
        obtain ⟨k0, k1⟩ := fmod_in (i := (((((((y1 * 48271 + (c + 1) * 69621 + 11) ^ (5 : Int).toNat).fmod 2147483647) * 16807 + (c + 1) * 40692 + 7) ^ (5 : Int).toNat).fmod 2147483629).fdiv 16)) hl0
        refine k _ _ k0 k1 ⟨⟨p + 1, c + 1, ?_, by omega, by push_cast; omega⟩, ⟨ns, ?_, hn⟩, hne⟩ ?_
        · rw [upd_same]
          rfl
        · rw [upd_ne hne.symm, upd_ne hne.symm]
          exact hcl
        · intro b o e hb1 hb2
          rw [upd_ne hb1, upd_ne hb1]
          exact e
def spStart (K : PySem.W.Frag) : Sp := fun vs H Q _ => ∃ (a : Addr) (ns : List Int), vs = [.ref a] ∧ SqL K H a (ns.map V.int) ∧ ns.length ≤ 63 ∧
  ∀ (st cl : Addr) (H' : Hp), StAt H' st cl 0 → Same H H' → H st = none → H cl = none → Q (.ref st) H'
abbrev nStart : List Str := ["_law_script", "_law_cell"]
theorem scStart : FnScope nStart ["_law_script"] (defScope sStart) := ⟨rfl, rfl, rfl, by decide +kernel, rfl, by decide +kernel, by decide +kernel⟩
theorem ok_start {f : Addr} {fd : FuncData} (F : Fun K "_law_start" "_law_start" sStart f fd) (T : Bi mg) : FnOk P w K mg base CX0 1 f fd ["_law_script"] (spStart K) := by
  refine F.ok scStart (fun vs H Q E h => ?_) (fun cdv A outer s H vs Q E hr h => ?_)
  · obtain ⟨a, ns, rfl, _⟩ := h
    rfl
  · obtain ⟨a, ns, rfl, hS, hn, k⟩ := h
    refine ⟨_, pss_one (ps_ret (pe_lst (pa_cons (pe_lc (own := [("_law_cell", 1)]) (g := gName 1) (tt := tYes) rfl scStart.nd (pi_list (pv 0)) (blkOk_by (own := [("_law_cell", 1)]) (N := nStart) (sc := defScope sStart) (by decide +kernel))
        (fun _ _ _ _ _ => pg_name (i := 1) scStart.nd rfl (Or.inl rfl)) (fun _ _ _ _ _ => pts_nil) (fun _ _ _ _ _ => pe_callTy call_int1 (by rfl) T.int (by decide +kernel) (pa_cons (pv 1) pa_nil)))
      (pa_cons pe_int (pa_cons pe_int pa_nil))))), ?_⟩
    refine ⟨_, rfl, a, rfl, ⟨_, hS⟩, fun D hD => lc_list (K := K) (a := a) (xs := ns.map V.int) (fun i H' => Same H H' ∧ H' D = some (.lst ((ns.take i).map V.int))) ⟨?_, ?_⟩ (fun i H' _ h => h.1.seq hS) ?_ ?_⟩
    · intro b o e
      rw [upd_ne (ne_of_none e hD)]
      exact e
    · rw [upd_same]
      rfl
    · intro i x H' hi ⟨s1, s2⟩
      obtain ⟨z, hz, rfl⟩ : ∃ z, ns[i]? = some z ∧ x = V.int z := by
        rw [List.getElem?_map] at hi
        cases e : ns[i]? with
        | none => rw [e] at hi; cases hi
        | some z => rw [e] at hi; exact ⟨z, rfl, (Option.some.inj hi).symm⟩
      have hil : i < ns.length := (List.getElem?_eq_some_iff.mp hz).1
      refine ⟨rfl, ?_⟩
      refine ⟨_, rfl, .inl ⟨_, rfl, _, s2, ?_, ?_, ?_⟩⟩
      · rw [List.length_map, List.length_take]
        exact small1000 (by omega)
      · intro b o e
        rw [upd_ne (ne_of_none e hD)]
        exact s1 b o e
      · rw [upd_same, List.take_succ, hz]
        simp
    · intro H' ⟨s1, s2⟩
      rw [List.length_map, List.take_length] at s2
      refine ⟨by show 3 ≤ sizeLine; decide, fun st hst => ?_⟩
      have hne : st ≠ D := (ne_of_none s2 hst).symm
      refine k st D _ ⟨⟨0, 0, upd_same, by decide, by decide⟩, ⟨ns, by rw [upd_ne hne.symm]; exact s2, hn⟩, hne⟩ ?_ ?_ hD
      · intro b o e
        rw [upd_ne (ne_of_none (s1 b o e) hst)]
        exact s1 b o e
      · exact s1.free hst
end
end OS
namespace OS
open PySem L2
abbrev lowL : Str := "abcdefghijklmnopqrstuvwxyz"
abbrev digL : Str := "0123456789"
def chOk (c : Nat) : Bool := decide (c ∈ lowL.cps.toList) || decide (c ∈ digL.cps.toList)
/-- what a name is, over a text's signs -/
def good (z : Str) : Bool :=
  if z = "mod" then false else if z.cps.toList.length < 1 ∨ 6 < z.cps.toList.length then false
  else if z.cps.toList.headD 0 ∈ lowL.cps.toList then z.cps.toList.all chOk else false
theorem Str.len_list (z : Str) : z.length = z.cps.toList.length := by
  show z.cps.size = _
  rw [Array.length_toList]
structure Nm (mg : Str → Option Value) : Prop where
  most : ∃ t, mg "MOST_CHARACTERS" = some (.int 6 t)
  let_ : ∃ t, mg "LETTERS" = some (.str lowL t)
  dig : ∃ t, mg "DIGITS" = some (.str digL t)
  res : ∃ t, mg "RESERVED" = some (.str "mod" t)
  all : mg "all" = none
theorem pe_gs {X : Cx} {x : Str} {pos : Pos} {z : Str} {t : Tok} (hg : Gl X x) (hm : X.mg x = some (.str z t)) (hd : (x == ("__debug__" : Str)) = false := by decide) : PE X (.Name x pos) (tC (.str z)) := pe_glob hg hm ⟨t, rfl⟩ hd
theorem pe_gi {X : Cx} {x : Str} {pos : Pos} {z : Int} {t : Tok} (hg : Gl X x) (hm : X.mg x = some (.int z t)) (hd : (x == ("__debug__" : Str)) = false := by decide) : PE X (.Name x pos) (tC (.int z)) := pe_glob hg hm ⟨t, rfl⟩ hd
def spValid : Sp := fun vs H Q _ => ∃ (z : Str), vs = [.str z] ∧ z.length ≤ 1000 ∧ ∀ H', Same H H' → Q (.bl (good z)) H'
section
variable {P : Program} {w : World} {K : PySem.W.Frag} {mg : Str → Option Value} {base : Heap}
abbrev nValid : List Str := ["text", "character"]
theorem scValid : FnScope nValid ["text"] (defScope sValid) := ⟨rfl, rfl, rfl, by decide +kernel, rfl, by decide +kernel, by decide +kernel⟩
theorem ok_valid {f : Addr} {fd : FuncData} (F : Fun K "valid_name" "valid_name" sValid f fd) (T : Bi mg) (N : Nm mg) : FnOk P w K mg base CX0 1 f fd ["text"] spValid := by
  obtain ⟨⟨t1, mM⟩, ⟨t2, mL⟩, ⟨t3, mD⟩, ⟨t4, mR⟩, mA⟩ := N
  refine F.ok scValid (fun vs H Q E h => ?_) (fun cdv A outer s H vs Q E hr h => ?_)
  · obtain ⟨z, rfl, _⟩ := h
    rfl
  · obtain ⟨z, rfl, hz, k⟩ := h
    refine ⟨_, pss_cons (ps_if (PW.pt (pw_or (pt_cmpR op_eq (pv 0) (pe_gs rfl mR) (nomark _)) (pw_or1 (pt_not (pt_chain op_le op_le pe_int (pe_callB call_len_str (by rfl) T.len PySem.boot_len (pa_cons (pv 0) pa_nil)) (pe_gi rfl mM)))))) (pss_one (ps_ret pe_bl)) pss_nil)
      (pss_cons (ps_if (pt_cmpR op_notIn_sign (pe_ix ix_str (pv 0) pe_int fun _ _ => rfl) (pe_gs rfl mL) rfl) (pss_one (ps_ret pe_bl)) pss_nil)
      (pss_one (ps_ret (pe_callB (cr_all rfl) (by rfl) mA (by decide +kernel) (pa_cons
        (pe_lc (own := [("character", 1)]) (g := gName 1) (tt := tYes) rfl scValid.nd (pi_str (pv 0)) (blkOk_by (own := [("character", 1)]) (N := nValid) (sc := defScope sValid) (by decide +kernel))
        (fun _ _ _ _ _ => pg_name (i := 1) scValid.nd rfl (Or.inl rfl)) (fun _ _ _ _ _ => pts_nil) (fun _ _ _ _ _ => pe_or (pe_cmpR op_in_sign (pv 1) (pe_gs rfl mL) rfl) (pe_one (pe_cmpR op_in_sign (pv 1) (pe_gs rfl mD) rfl)))) pa_nil))))), ?_⟩
    have hs : z.length ≤ sizeLine := Nat.le_of_lt (small1000 hz)
    have hln := Str.len_list z
    have edec : decide (V.str z = V.str "mod") = decide (z = "mod") := by
      by_cases h : z = "mod"
      · rw [decide_eq_true h, decide_eq_true (congrArg V.str h)]
      · rw [decide_eq_false h, decide_eq_false (fun e => h (V.str.inj e))]
    refine ⟨_, rfl, rfl, _, rfl, ?_⟩
    rw [edec]
    have hkf : ∀ H', Same H H' → good z = false → Q (.bl false) H' := fun H' s g => by have := k H' s; rwa [g] at this
    refine ite2 (fun hm => ?_) (fun hm => ?_)
    · exact hkf H (Same.refl H) (by unfold good; rw [if_pos (of_decide_eq_true hm)])
    have hm' : ¬ z = "mod" := fun e => hm (decide_eq_true e)
    have hkb : ∀ H', Same H H' → ¬ (1 ≤ z.length ∧ z.length ≤ 6) → Q (.bl false) H' := fun H' s g => hkf H' s (by unfold good; rw [if_neg hm', if_pos (by omega)])
    refine ⟨_, rfl, _, rfl, hs, _, _, rfl, rfl, _, rfl, ?_⟩
    refine ite2 (fun h1 => ?_) (fun h1 => ?_)
    rotate_left
    · have h1' : ¬ ((1 : Int) ≤ z.length) := fun e => h1 (decide_eq_true e)
      refine ⟨_, rfl, iteT ?_⟩
      exact hkb H (Same.refl H) (by omega)
    have h1' : (1 : Int) ≤ z.length := of_decide_eq_true h1
    refine ⟨_, _, rfl, rfl, _, rfl, ?_⟩
    by_cases h6 : (z.length : Int) ≤ 6
    rotate_left
    · rw [decide_eq_false h6]
      refine iteT ?_
      exact hkb H (Same.refl H) (by omega)
    rw [decide_eq_true h6]
    refine iteF ?_
    -- text[0] not in LETTERS
    obtain ⟨c0, l0, hl0⟩ : ∃ c0 l0, z.cps.toList = c0 :: l0 := by
      cases e : z.cps.toList with
      | nil => rw [e] at hln; simp at hln; omega
      | cons c l => exact ⟨c, l, rfl⟩
    refine ⟨_, rfl, _, _, c0, rfl, rfl, hs, ?_, _, _, rfl, rfl, _, rfl, ?_⟩
    · show atI _ _ = _
      exact atI_nat (j := 0) (by rw [hl0]; rfl)
    have gd : good z = (if c0 ∈ lowL.cps.toList then z.cps.toList.all chOk else false) := by
      unfold good
      rw [if_neg hm', if_neg (by omega), hl0]
      rfl
    by_cases hc : c0 ∈ lowL.cps.toList
    rotate_left
    · rw [decide_eq_false hc]
      refine iteT ?_
      exact hkf H (Same.refl H) (by rw [gd, if_neg hc])
    rw [decide_eq_true hc]
    refine iteF ?_
    rw [if_pos hc] at gd
    -- all([..])
    refine ⟨_, rfl, z, rfl, fun D hD => lc_it (walk_str (z := z)) (fun i H' => Same H H' ∧ H' D = some (.lst (((z.cps.toList.take i).map chOk).map V.bl))) ⟨?_, ?_⟩ (fun _ _ _ _ => trivial) ?_ ?_⟩
    · intro b o e
      rw [upd_ne (ne_of_none e hD)]
      exact e
    · rw [upd_same]
      rfl
    · intro i x H' H2 hi ⟨s1, s2⟩ ⟨e, c, hcc, ex⟩
      subst e
      subst ex
      have hcl : z.cps.toList[i]? = some c := by rw [Array.getElem?_toList]; exact hcc
      have step : Same H (upd H2 D (.lst (((z.cps.toList.take i).map chOk).map V.bl ++ [V.bl (chOk c)]))) ∧ (upd H2 D (.lst (((z.cps.toList.take i).map chOk).map V.bl ++ [V.bl (chOk c)]))) D = some (.lst (((z.cps.toList.take (i + 1)).map chOk).map V.bl)) := by
        refine ⟨fun b o e => ?_, ?_⟩
        · rw [upd_ne (ne_of_none e hD)]
          exact s1 b o e
        · rw [upd_same, List.take_succ, hcl]
          simp
      have hlen : (((z.cps.toList.take i).map chOk).map V.bl).length < sizeLine := by
        rw [List.length_map, List.length_map, List.length_take]
        exact small1000 (by omega)
      refine ⟨rfl, ?_⟩
      refine ⟨_, rfl, _, _, rfl, rfl, _, rfl, ?_⟩
      by_cases ha : c ∈ lowL.cps.toList
      · have ek : chOk c = true := by unfold chOk; rw [decide_eq_true ha]; rfl
        rw [ek] at step
        rw [decide_eq_true ha]
        refine iteT ?_
        exact ⟨_, s2, hlen, step⟩
      · have ek : chOk c = decide (c ∈ digL.cps.toList) := by unfold chOk; rw [decide_eq_false ha]; rfl
        rw [ek] at step
        rw [decide_eq_false ha]
        refine iteF ?_
        exact ⟨_, rfl, _, _, rfl, rfl, _, s2, hlen, step⟩
    · intro H' ⟨s1, s2⟩
      refine ⟨D, z.cps.toList.map chOk, rfl, ?_, ?_⟩
      · refine SqL.of ?_
        rw [s2, List.take_of_length_le (by rw [Array.length_toList]; exact Nat.le_refl _)]
      · have := k H' s1
        rw [gd] at this
        rw [List.all_map]
        exact this
end
end OS
namespace OS
open PySem L2 PySem.Spec PyProof.Rows
section
variable {X : Cx} {CX : CXT} {n : Nat} {f C : Addr} {fd : FuncData} {ps : List Str} {sp : Sp} {E : XK}
/-- a def run by the machine itself (an operator of an own class), somewhere below the running body -/
theorem run_at {A : Around} (F : FnOk X.prog X.w X.K X.mg X.base CX n f fd ps sp) (sb : Sub X n A) (hb : Binds X.K fd ps []) (hx : Passes CX X E) {pins : List (Addr × Obj)} {σ : L2.St} {H : Hp} {s : Shared} {vs : List V} {us : List Value} {Q : VK} {R : Value → Shared → Prop}
    (I : Inv X pins σ H s) (r : Vals vs us) (h : sp vs H Q E) (k : ∀ v u H' s', Inv X pins σ H' s' → RelV v u → Q v H' → R u s') : wpAny (model X.prog X.w) A (call (.ref f) us) R X.xe s := by
  have e0 : Env0 X.prog X.w X.K X.mg X.base A X.stack s H := by
    have e := I.env0
    exact ⟨by rw [sb.fr]; exact e.frames, e.mod, e.bs, e.bsz, e.funs, e.frf, e.hok, e.bare⟩
  have hl := F.len _ _ _ _ h
  refine wpAny_call (codeAny_mono (F.run A X.stack s H ⟨us, []⟩ us vs _ E sb.room e0 (by
    have := hb s us I.kIn (by rw [List.append_nil, ← r.length]; exact hl)
    simpa using this) r h) fun r' s' hq => ?_)
  cases r' with
  | error e => exact hx pins σ H s e s' I hq
  | ok fl =>
    cases fl with
    | ret u =>
      obtain ⟨v, H', I', rv, q⟩ := I.after hq
      exact k v u H' s' I' rv q
    | next => exact False.elim hq
    | brk => exact False.elim hq
    | cont => exact False.elim hq
theorem v1 {a : Addr} : Vals [V.ref a] [Value.ref a] := .cons rfl .nil
theorem v2 {a b : Addr} : Vals [V.ref a, V.ref b] [Value.ref a, Value.ref b] := .cons rfl (.cons rfl .nil)
theorem v2i {a : Addr} {i : Int} {t : Tok} : Vals [V.ref a, V.int i] [Value.ref a, Value.int i t] := .cons rfl (.cons ⟨t, rfl⟩ .nil)
theorem notImpl {v : V} {u : Value} {Q : Value → Shared → Prop} {s : Shared} (r : RelV v u) (q : Q u s) : PySem.W.CmpBack Q u s := by
  cases v with
  | non => cases r; exact q
  | bl b => cases r; exact q
  | int i => obtain ⟨t, rfl⟩ := r; exact q
  | str i => obtain ⟨t, rfl⟩ := r; exact q
  | byt i => obtain ⟨t, rfl⟩ := r; exact q
  | flt i => obtain ⟨t, rfl⟩ := r; exact q
  | ref i => cases r; exact q
  | ty i => cases r; exact q
/-- an own method found by name, as the machine asks it -/
structure Own (K : PySem.W.Frag) (C : Addr) (m : Str) (f : Addr) : Prop where
  at_ : PySem.W.findIn K (.ref C) m = some (some (.ref f))
  fn : PySem.W.isFn K (.ref f) = true
/-- one operand, an instance of the class at C -/
def rU1 (C : Addr) (sp : Sp) (E : XK) : V → Hp → VK → Prop := fun x H Q => ∃ a dx fs, x = .ref a ∧ H a = some (.ins C dx fs) ∧ sp [x] H Q E
/-- -x by the own __neg__ -/
theorem un_negO (F : FnOk X.prog X.w X.K X.mg X.base CX n f fd ps sp) (o : Own X.K C "__neg__" f) (hr : Room n X.A) (hb : Binds X.K fd ps []) (hx : Passes CX X E) : UnR X (unaryOp .USub) (rU1 C sp E) := by
  intro pins s σ H x v Q I rx h
  obtain ⟨a, dx, fs, rfl, ha, q⟩ := h
  cases rx
  obtain ⟨mA, J, _⟩ := ins_get I.hok ha
  obtain ⟨od, J, _⟩ := J.look
  obtain ⟨m, hF⟩ := I.fr
  exact PySem.W.ksp_neg hF I.ok.mod.kin J o.at_ o.fn (run_at F ⟨hr, rfl⟩ hb hx I v1 q fun v u H' s' I' rv qv => ⟨v, H', I', rv, qv⟩)
/-- an instance of the class at C on the left, an int on the right -/
def rB1 (C : Addr) (sp : Sp) (E : XK) : R2 := fun x y H Q => ∃ a dx fs i, x = .ref a ∧ y = .int i ∧ H a = some (.ins C dx fs) ∧ sp [x, y] H Q E
theorem op_ownI {op : Operator} {fo ro rc : Option Value} (F : FnOk X.prog X.w X.K X.mg X.base CX n f fd ps sp) (o : Own X.K C (PySem.dunder op.info.2) f) (hc : PySem.W.selfFirst X.K C = true)
    (hrr : PySem.W.findIn X.K (.ref C) (dunderR op.info.2) = some rc) (hp : rc = none ∨ ∃ g : Addr, rc = some (.ref g)) (h1 : PySem.W.findIn X.K (.type "int") (PySem.dunder op.info.2) = some fo) (h2 : PySem.W.findIn X.K (.type "int") (dunderR op.info.2) = some ro)
    (hsub : PySem.W.subIn X.K (.type "int") (.ref C) = some false) (hr : Room n X.A) (hb : Binds X.K fd ps []) (hx : Passes CX X E) : OpR X (binaryOp op) (rB1 C sp E) := by
  intro pins s σ H x y v u Q I rx ry h
  obtain ⟨a, dx, fs, i, rfl, rfl, ha, q⟩ := h
  cases rx
  obtain ⟨t, rfl⟩ := ry
  obtain ⟨mA, J, _⟩ := ins_get I.hok ha
  obtain ⟨od, J, _⟩ := J.look
  obtain ⟨m, hF⟩ := I.fr
  exact PySem.W.ksp_binT (T := "int") hF I.ok.mod.kin J rfl hc o.at_ o.fn hrr hp h1 h2 hsub (run_at F ⟨hr, rfl⟩ hb hx I v2i q fun v u H' s' I' rv qv => notImpl rv ⟨v, H', I', rv, qv⟩)
/-- two instances of the class at C -/
def rB2 (C : Addr) (sp : Sp) (E : XK) : R2 := fun x y H Q => ∃ a dx fs b dy gs, x = .ref a ∧ y = .ref b ∧ H a = some (.ins C dx fs) ∧ H b = some (.ins C dy gs) ∧ sp [x, y] H Q E
theorem op_own2 {op : Operator} (F : FnOk X.prog X.w X.K X.mg X.base CX n f fd ps sp) (o : Own X.K C (PySem.dunder op.info.2) f) (hc : PySem.W.selfFirst X.K C = true)
    (hr : Room n X.A) (hb : Binds X.K fd ps []) (hx : Passes CX X E) : OpR X (binaryOp op) (rB2 C sp E) := by
  intro pins s σ H x y v u Q I rx ry h
  obtain ⟨a, dx, fs, b, dy, gs, rfl, rfl, ha, hb', q⟩ := h
  cases rx
  cases ry
  obtain ⟨mA, J, _⟩ := ins_get I.hok ha
  obtain ⟨mB, J', _⟩ := ins_get I.hok hb'
  obtain ⟨od, J, _⟩ := J.look
  obtain ⟨od', J', _⟩ := J'.look
  obtain ⟨m, hF⟩ := I.fr
  exact PySem.W.binop_K hF I.ok.mod.kin J J'.type hc o.at_ o.fn (run_at F ⟨hr, rfl⟩ hb hx I v2 q fun v u H' s' I' rv qv => notImpl rv ⟨v, H', I', rv, qv⟩)
/-- str(x) by the own __str__ -/
def rStrO (C : Addr) (sp : Sp) (E : XK) : List V → Hp → VK → Prop := fun xs H Q => ∃ a dx fs, xs = [.ref a] ∧ H a = some (.ins C dx fs) ∧ sp xs H (fun v H' => (∃ z, v = .str z) ∧ Q v H') E
theorem call_strO (F : FnOk X.prog X.w X.K X.mg X.base CX n f fd ps sp) (o : Own X.K C "__str__" f) (hr : Room (n + 2) X.A) (hb : Binds X.K fd ps []) (hx : Passes CX X E) : CallR X (.type "str") (rStrO C sp E) := by
  intro pins s σ H xs us Q I r h
  obtain ⟨a, dx, fs, rfl, ha, q⟩ := h
  obtain ⟨u, rfl, ru⟩ := vals1 r
  cases ru
  obtain ⟨mA, J, _⟩ := ins_get I.hok ha
  obtain ⟨od, J, _⟩ := J.look
  have sb : Sub X n X.A.in1.in1 := (Sub.in1 (n := n) (Sub.in1 (n := n + 1) ⟨hr, rfl⟩))
  refine PySem.W.kso_call (by have := sb.room.units0; exact this) I.kIn J o.at_ o.fn (run_at F sb hb hx I v1 q fun v u H' s' I' rv qv => ?_)
  obtain ⟨⟨z, rfl⟩, qv⟩ := qv
  obtain ⟨t, rfl⟩ := id rv
  exact ⟨_, H', I', rv, qv⟩
end
end OS
namespace OS
open PySem L2 PySem.Spec PyProof.Rows
/-! ### texts in their order -/
theorem ltc_irr : ∀ a : List Nat, ltCps a a = false
  | [] => rfl
  | a :: r => by simp [ltCps, ltc_irr r]
theorem ltc_trans : ∀ {a b c : List Nat}, ltCps a b = true → ltCps b c = true → ltCps a c = true
  | [], [], _, h, _ => by simp [ltCps] at h
  | [], _ :: _, [], _, h => by simp [ltCps] at h
  | [], _ :: _, _ :: _, _, _ => rfl
  | _ :: _, [], _, h, _ => by simp [ltCps] at h
  | _ :: _, _ :: _, [], _, h => by simp [ltCps] at h
  | a :: r, b :: s, c :: t, h1, h2 => by
    simp only [ltCps, Bool.or_eq_true, decide_eq_true_eq, Bool.and_eq_true, beq_iff_eq] at h1 h2 ⊢
    rcases h1 with h1 | ⟨h1, h1'⟩ <;> rcases h2 with h2 | ⟨h2, h2'⟩
    · left; omega
    · left; omega
    · left; omega
    · right; exact ⟨by omega, ltc_trans h1' h2'⟩
theorem ltc_tot : ∀ a b : List Nat, a ≠ b → ltCps a b = true ∨ ltCps b a = true
  | [], [], h => absurd rfl h
  | [], _ :: _, _ => .inl rfl
  | _ :: _, [], _ => .inr rfl
  | a :: r, b :: t, h => by
    simp only [ltCps, Bool.or_eq_true, decide_eq_true_eq, Bool.and_eq_true, beq_iff_eq]
    rcases Nat.lt_trichotomy a b with q | q | q
    · exact .inl (.inl q)
    · subst q
      rcases ltc_tot r t (fun e => h (by rw [e])) with z | z
      · exact .inl (.inr ⟨rfl, z⟩)
      · exact .inr (.inr ⟨rfl, z⟩)
    · exact .inr (.inl q)
def Lt (a b : Str) : Prop := ltCps a.cps.toList b.cps.toList = true
theorem Lt.irr {a : Str} : ¬ Lt a a := fun h => by
  unfold Lt at h
  rw [ltc_irr] at h
  cases h
theorem Lt.trans {a b c : Str} (h : Lt a b) (k : Lt b c) : Lt a c := ltc_trans h k
theorem Str.ext_list {a b : Str} (h : a.cps.toList = b.cps.toList) : a = b := by
  cases a with | mk x => cases b with | mk y =>
    have : x = y := by rw [← Array.toArray_toList (xs := x), ← Array.toArray_toList (xs := y)]; exact congrArg List.toArray h
    rw [this]
theorem Lt.tot {a b : Str} (h : a ≠ b) : Lt a b ∨ Lt b a := ltc_tot _ _ fun e => h (Str.ext_list e)
/-- strictly rising -/
def Asc (l : List Str) : Prop := l.Pairwise Lt
theorem rising_asc : ∀ (l : List Str) (p : Str), risingS p l = true → (p :: l).Nodup → Asc (p :: l)
  | [], p, _, _ => List.pairwise_singleton _ _
  | x :: r, p, h, nd => by
    have h : (!ltCps x.cps.toList p.cps.toList && risingS x r) = true := h
    rw [Bool.and_eq_true] at h
    obtain ⟨h1, h2⟩ := h
    have nd2 : (x :: r).Nodup := (List.nodup_cons.mp nd).2
    have ih : Asc (x :: r) := rising_asc r x h2 nd2
    have hpx : Lt p x := by
      have hne : p ≠ x := fun e => (List.nodup_cons.mp nd).1 (by rw [e]; exact List.mem_cons_self)
      rcases Lt.tot hne with z | z
      · exact z
      · unfold Lt at z
        rw [z] at h1
        cases h1
    refine List.pairwise_cons.mpr ⟨fun y hy => ?_, ih⟩
    rcases List.mem_cons.mp hy with e | e
    · rw [e]; exact hpx
    · exact hpx.trans ((List.pairwise_cons.mp ih).1 y e)
theorem sorted_asc {l : List Str} (h : sortedS l = true) (nd : l.Nodup) : Asc l := by
  cases l with
  | nil => exact List.Pairwise.nil
  | cons x r => exact rising_asc r x h nd
theorem asc_unique : ∀ {l m : List Str}, Asc l → Asc m → (∀ x, x ∈ l ↔ x ∈ m) → l = m
  | [], [], _, _, _ => rfl
  | [], y :: m, _, _, h => absurd ((h y).mpr List.mem_cons_self) (by simp)
  | x :: l, [], _, _, h => absurd ((h x).mp List.mem_cons_self) (by simp)
  | x :: l, y :: m, hl, hm, h => by
    obtain ⟨l1, l2⟩ := List.pairwise_cons.mp hl
    obtain ⟨m1, m2⟩ := List.pairwise_cons.mp hm
    have e : x = y := by
      rcases List.mem_cons.mp ((h x).mp List.mem_cons_self) with e | e
      · exact e
      · rcases List.mem_cons.mp ((h y).mpr List.mem_cons_self) with f | f
        · exact f.symm
        · exact absurd ((m1 x e).trans (l1 y f)) Lt.irr
    subst e
    rw [asc_unique l2 m2 fun z => ?_]
    constructor
    · intro hz
      rcases List.mem_cons.mp ((h z).mp (List.mem_cons_of_mem _ hz)) with q | q
      · exact absurd (q ▸ l1 z hz) Lt.irr
      · exact q
    · intro hz
      rcases List.mem_cons.mp ((h z).mpr (List.mem_cons_of_mem _ hz)) with q | q
      · exact absurd (q ▸ m1 z hz) Lt.irr
      · exact q
/-! ### coefficients -/
abbrev Cf := List (Str × Int)
def lookO (kvs : Cf) (k : Str) : Option Int := (kvs.find? fun e => decide (e.1 = k)).map (·.2)
/-- the coefficient of a name, 0 where it is not there -/
def look (kvs : Cf) (k : Str) : Int := (lookO kvs k).getD 0
/-- as the pairs of a dict -/
def dk (kvs : Cf) : List (Key × V) := kvs.map fun e => (Sum.inr e.1, V.int e.2)
theorem lookO_cons (e : Str × Int) (r : Cf) (k : Str) : lookO (e :: r) k = if e.1 = k then some e.2 else lookO r k := by
  unfold lookO
  rw [List.find?_cons]
  by_cases h : e.1 = k <;> simp [h]
theorem valV_dk (k : Str) : ∀ kvs : Cf, valV (dk kvs) (Sum.inr k : Key) = (lookO kvs k).map V.int
  | [] => rfl
  | e :: r => by
    have ih := valV_dk k r
    rw [lookO_cons]
    by_cases h : e.1 = k
    · rw [if_pos h]
      show valV ((Sum.inr e.1, V.int e.2) :: dk r) _ = _
      rw [valV_pos (by rw [h])]
      rfl
    · rw [if_neg h]
      show valV ((Sum.inr e.1, V.int e.2) :: dk r) _ = _
      rw [valV_neg (fun q => h (Sum.inr.inj q))]
      exact ih
theorem lookO_mem : ∀ {kvs : Cf} {k : Str} {v : Int}, lookO kvs k = some v → (k, v) ∈ kvs
  | [], k, v, h => by cases h
  | e :: r, k, v, h => by
    rw [lookO_cons] at h
    by_cases q : e.1 = k
    · rw [if_pos q] at h
      cases h
      rw [← q]
      exact List.mem_cons_self
    · rw [if_neg q] at h
      exact List.mem_cons_of_mem _ (lookO_mem h)
theorem lookO_none : ∀ {kvs : Cf} {k : Str}, lookO kvs k = none ↔ k ∉ kvs.map (·.1)
  | [], k => by simp [lookO]
  | e :: r, k => by
    rw [lookO_cons, List.map_cons, List.mem_cons]
    by_cases q : e.1 = k
    · rw [if_pos q]
      constructor
      · intro h; cases h
      · intro h; exact absurd (Or.inl q.symm) h
    · rw [if_neg q, lookO_none]
      constructor
      · rintro h (z | z)
        · exact q z.symm
        · exact h z
      · intro h z; exact h (Or.inr z)
theorem lookO_of_mem : ∀ {kvs : Cf} {k : Str} {v : Int}, (kvs.map (·.1)).Nodup → (k, v) ∈ kvs → lookO kvs k = some v
  | [], k, v, _, h => by cases h
  | e :: r, k, v, nd, h => by
    rw [List.map_cons] at nd
    obtain ⟨n1, n2⟩ := List.nodup_cons.mp nd
    rw [lookO_cons]
    rcases List.mem_cons.mp h with q | q
    · rw [← q, if_pos rfl]
    · rw [if_neg (fun z => n1 (by rw [z]; exact List.mem_map.mpr ⟨_, q, rfl⟩)), lookO_of_mem n2 q]
theorem look_none {kvs : Cf} {k : Str} (h : k ∉ kvs.map (·.1)) : look kvs k = 0 := by
  unfold look
  rw [lookO_none.mpr h]
  rfl
theorem asc_nodup {l : List Str} (h : Asc l) : l.Nodup := List.Pairwise.imp (fun {a b} h e => by subst e; exact Lt.irr h) h
/-- the coefficients of a form: names strictly rising, none 0 -/
structure Can (cs : Cf) : Prop where
  asc : Asc (cs.map (·.1))
  nz : ∀ e ∈ cs, e.2 ≠ 0
theorem Can.nd {cs : Cf} (h : Can cs) : (cs.map (·.1)).Nodup := asc_nodup h.asc
theorem Can.mem_iff {cs : Cf} (h : Can cs) (k : Str) : k ∈ cs.map (·.1) ↔ look cs k ≠ 0 := by
  constructor
  · intro hk
    obtain ⟨e, he, rfl⟩ := List.mem_map.mp hk
    have : lookO cs e.1 = some e.2 := lookO_of_mem h.nd he
    unfold look
    rw [this]
    exact h.nz e he
  · intro hk
    cases Classical.em (k ∈ cs.map (·.1)) with
    | inl z => exact z
    | inr z => exact absurd (look_none z) hk
theorem Can.eq_map {cs : Cf} (h : Can cs) : cs = (cs.map (·.1)).map fun k => (k, look cs k) := by
  rw [List.map_map]
  conv => lhs; rw [← List.map_id cs]
  refine List.map_congr_left fun e he => ?_
  show e = (e.1, look cs e.1)
  unfold look
  rw [lookO_of_mem h.nd (k := e.1) (v := e.2) he]
  rfl
theorem Can.unique {cs ds : Cf} (h : Can cs) (k : Can ds) (e : ∀ x, look cs x = look ds x) : cs = ds := by
  have hm : cs.map (·.1) = ds.map (·.1) := asc_unique h.asc k.asc fun x => by rw [h.mem_iff, k.mem_iff, e]
  rw [h.eq_map, k.eq_map, hm]
  refine List.map_congr_left fun x _ => ?_
  rw [e]
/-- the names of ys whose coefficient is not 0 -/
def pick (g : Str → Int) (ys : List Str) : Cf := (ys.filter fun k => decide (g k ≠ 0)).map fun k => (k, g k)
theorem pick_names (g : Str → Int) (ys : List Str) : (pick g ys).map (·.1) = ys.filter fun k => decide (g k ≠ 0) := by
  unfold pick
  rw [List.map_map]
  exact List.map_id _
theorem pick_can {g : Str → Int} {ys : List Str} (h : Asc ys) : Can (pick g ys) := by
  refine ⟨?_, ?_⟩
  · rw [pick_names]
    exact List.Pairwise.filter _ h
  · intro e he
    unfold pick at he
    obtain ⟨k, hk, rfl⟩ := List.mem_map.mp he
    exact of_decide_eq_true (List.mem_filter.mp hk).2
theorem pick_look {g : Str → Int} {ys : List Str} (h : Asc ys) (hs : ∀ k, g k ≠ 0 → k ∈ ys) (k : Str) : look (pick g ys) k = g k := by
  cases Classical.em (g k = 0) with
  | inl z =>
    rw [z]
    refine look_none ?_
    rw [pick_names]
    intro m
    exact of_decide_eq_true (List.mem_filter.mp m).2 z
  | inr z =>
    have : lookO (pick g ys) k = some (g k) := lookO_of_mem (pick_can h).nd (List.mem_map.mpr ⟨k, List.mem_filter.mpr ⟨hs k z, decide_eq_true z⟩, rfl⟩)
    unfold look
    rw [this]
    rfl
theorem pick_snoc (g : Str → Int) (ys : List Str) (y : Str) : pick g (ys ++ [y]) = if g y ≠ 0 then pick g ys ++ [(y, g y)] else pick g ys := by
  unfold pick
  rw [List.filter_append]
  by_cases h : g y = 0
  · rw [if_neg (fun z => z h)]
    simp [h]
  · rw [if_pos h]
    simp [h]
theorem dk_snoc (cs : Cf) (k : Str) (v : Int) : dk (cs ++ [(k, v)]) = dk cs ++ [(Sum.inr k, V.int v)] := by
  unfold dk
  rw [List.map_append]
  rfl
theorem dk_put_new {cs : Cf} {k : Str} {v : Int} (h : k ∉ cs.map (·.1)) : putK (dk cs) (Sum.inr k : Key) (V.int v) = dk (cs ++ [(k, v)]) := by
  rw [putK_new _ (by rw [valV_dk, lookO_none.mpr h]; rfl), dk_snoc]
theorem dk_len (cs : Cf) : (dk cs).length = cs.length := List.length_map _
/-- d[k] = v -/
def putC (cs : Cf) (k : Str) (v : Int) : Cf := if k ∈ cs.map (·.1) then cs.map (fun e => if e.1 = k then (e.1, v) else e) else cs ++ [(k, v)]
theorem dk_put (cs : Cf) (k : Str) (v : Int) : putK (dk cs) (Sum.inr k : Key) (V.int v) = dk (putC cs k v) := by
  unfold putC
  by_cases h : k ∈ cs.map (·.1)
  · rw [if_pos h]
    unfold putK
    have ha : ((dk cs).any fun kv => decide (kv.1 = (Sum.inr k : Key))) = true := by
      obtain ⟨e, he, q⟩ := List.mem_map.mp h
      exact List.any_eq_true.mpr ⟨(Sum.inr e.1, V.int e.2), List.mem_map.mpr ⟨e, he, rfl⟩, decide_eq_true (by rw [← q])⟩
    rw [if_pos ha]
    unfold dk
    rw [List.map_map, List.map_map]
    refine List.map_congr_left fun e _ => ?_
    by_cases q : e.1 = k
    · simp [q]
    · have q' : ¬ (Sum.inr e.1 : Key) = Sum.inr k := fun z => q (Sum.inr.inj z)
      simp [q, q']
  · rw [if_neg h, dk_put_new h]
theorem putC_look (cs : Cf) (k : Str) (v : Int) (j : Str) : lookO (putC cs k v) j = if j = k then some v else lookO cs j := by
  have e1 := valV_dk j (putC cs k v)
  rw [← dk_put, valV_put, valV_dk] at e1
  by_cases h : j = k
  · rw [if_pos h]
    rw [if_pos (by rw [h])] at e1
    cases q : lookO (putC cs k v) j with
    | none => rw [q] at e1; cases e1
    | some z => rw [q] at e1; cases e1; rfl
  · rw [if_neg h]
    rw [if_neg (fun z => h (Sum.inr.inj z))] at e1
    cases q : lookO (putC cs k v) j with
    | none => rw [q] at e1; cases q2 : lookO cs j with
      | none => rfl
      | some z => rw [q2] at e1; cases e1
    | some z => rw [q] at e1; cases q2 : lookO cs j with
      | none => rw [q2] at e1; cases e1
      | some y => rw [q2] at e1; cases e1; rfl
theorem putC_names (cs : Cf) (k : Str) (v : Int) : (putC cs k v).map (·.1) = if k ∈ cs.map (·.1) then cs.map (·.1) else cs.map (·.1) ++ [k] := by
  unfold putC
  by_cases h : k ∈ cs.map (·.1)
  · rw [if_pos h, if_pos h, List.map_map]
    refine List.map_congr_left fun e _ => ?_
    show (if e.1 = k then (e.1, v) else e).1 = e.1
    split <;> rfl
  · rw [if_neg h, if_neg h, List.map_append]
    rfl
theorem putC_nd {cs : Cf} {k : Str} {v : Int} (h : (cs.map (·.1)).Nodup) : ((putC cs k v).map (·.1)).Nodup := by
  rw [putC_names]
  by_cases q : k ∈ cs.map (·.1)
  · rw [if_pos q]; exact h
  · rw [if_neg q]; exact nd_snoc h q
theorem putC_len (cs : Cf) (k : Str) (v : Int) : (putC cs k v).length ≤ cs.length + 1 := by
  have := congrArg List.length (putC_names cs k v)
  rw [List.length_map] at this
  rw [this]
  split
  · rw [List.length_map]; omega
  · rw [List.length_append, List.length_map]; exact Nat.le_refl _
theorem putC_mem {cs : Cf} {k : Str} {v : Int} {e : Str × Int} (h : e ∈ putC cs k v) : e = (k, v) ∨ e ∈ cs := by
  unfold putC at h
  by_cases q : k ∈ cs.map (·.1)
  · rw [if_pos q] at h
    obtain ⟨f, hf, rfl⟩ := List.mem_map.mp h
    by_cases z : f.1 = k
    · rw [if_pos z, z]; exact Or.inl rfl
    · rw [if_neg z]; exact Or.inr hf
  · rw [if_neg q] at h
    rcases List.mem_append.mp h with z | z
    · exact Or.inr z
    · exact Or.inl (List.mem_singleton.mp z)
end OS
namespace OS
open PySem L2
/-- a def of the module's, by its name -/
structure Df (K : PySem.W.Frag) (mg : Str → Option Value) (x : Str) (f : Addr) : Prop where
  mg : mg x = some (.ref f)
  kp : PySem.W.keepIn K (.ref f) = true
theorem StAt.upd {H : Hp} {st cl : Addr} {m : Nat} {D : Addr} {o : HO} (S : StAt H st cl m) (h1 : D ≠ st) (h2 : D ≠ cl) : StAt (upd H D o) st cl m := by
  obtain ⟨⟨p, c, a, b⟩, ⟨ns, e, l⟩, n⟩ := S
  exact ⟨⟨p, c, by rw [upd_ne h1.symm]; exact a, b⟩, ⟨ns, by rw [upd_ne h2.symm]; exact e, l⟩, n⟩
theorem StAt.nst {H : Hp} {st cl : Addr} {m : Nat} {D : Addr} (S : StAt H st cl m) (h : H D = none) : D ≠ st ∧ D ≠ cl := by
  obtain ⟨⟨p, c, a, b⟩, ⟨ns, e, l⟩, n⟩ := S
  exact ⟨(ne_of_none a h).symm, (ne_of_none e h).symm⟩
theorem StAt.same {H H' : Hp} {st cl : Addr} {m : Nat} (S : StAt H st cl m) (h : Same H H') : StAt H' st cl m := by
  obtain ⟨⟨p, c, a, b⟩, ⟨ns, e, l⟩, n⟩ := S
  exact ⟨⟨p, c, h _ _ a, b⟩, ⟨ns, h _ _ e, l⟩, n⟩
end OS
namespace OS
open PySem L2
/-! ### numbers and terms as texts -/
def sg (n : Int) : Str := if n < 0 then " - " else " + "
def dec (n : Int) : Str := toString n
def aint (n : Int) : Int := if n < 0 then -n else n
def term (z : Str) (v : Int) : Str := sg v ++ (if aint v = 1 then z else dec (aint v) ++ (Str.ofString "*") ++ z)
theorem log2_lt {i : Int} (h : i.natAbs < 10 ^ 64) : i.natAbs.log2 < 1920 := by
  by_cases h0 : i.natAbs = 0
  · rw [h0]; decide
  · refine (Nat.log2_lt h0).mpr (Nat.lt_of_lt_of_le h ?_)
    decide +kernel
structure Pc (mg : Str → Option Value) : Prop where
  piece : ∃ t, mg "PIECE" = some (.int (10 ^ 64) t)
  str : mg "str" = none
  abs : mg "abs" = none
def spDec : Sp := fun vs H Q _ => ∃ n : Int, vs = [.int n] ∧ 0 ≤ n ∧ n < 10 ^ 64 ∧ ∀ H', Same H H' → Q (.str (dec n)) H'
def spSgn : Sp := fun vs H Q _ => ∃ (n : Int) (z : Str), vs = [.int n, .str z] ∧ z.length ≤ 1000 ∧ Q (.str (sg n ++ z)) H
def spTerm : Sp := fun vs H Q _ => ∃ (n : Int) (z : Str), vs = [.str z, .int n] ∧ z.length ≤ 10 ∧ aint n < 10 ^ 64 ∧ ∀ H', Same H H' → Q (.str (term z n)) H'
theorem Str.empty_app (z : Str) : Str.empty ++ z = z := Str.ext_list (by
  show (TL.tl (Str.empty ++ z)) = _
  rw [TL.tl_append]
  rfl)
theorem Str.app_assoc (a b c : Str) : (a ++ b) ++ c = a ++ (b ++ c) := Str.ext_list (by
  show (TL.tl ((a ++ b) ++ c)) = TL.tl (a ++ (b ++ c))
  rw [TL.tl_append, TL.tl_append, TL.tl_append, TL.tl_append, List.append_assoc])
theorem len_app (x y : Str) : (x ++ y).length = x.length + y.length := by
  have e : (TL.tl (x ++ y)).length = (TL.tl x).length + (TL.tl y).length := by rw [TL.tl_append, List.length_append]
  rw [Str.len_list, Str.len_list, Str.len_list]
  exact e
theorem sg_len (n : Int) : (sg n).length = 3 := by
  unfold sg
  split <;> decide +kernel
theorem numL_len {n : Nat} (h : n < 10 ^ 64) : (TL.numL n).length ≤ 64 := by
  unfold TL.numL
  rw [List.length_map]
  exact (Nat.length_toDigits_le_iff (by decide) (by decide)).mpr h
theorem dec_len {n : Int} (h0 : 0 ≤ n) (h : n < 10 ^ 64) : (dec n).length ≤ 64 := by
  obtain ⟨m, rfl⟩ : ∃ m : Nat, n = (m : Int) := ⟨n.toNat, by omega⟩
  have hm : m < 10 ^ 64 := by omega
  rw [Str.len_list]
  show (TL.tl (Str.ofString (toString ((m : Nat) : Int)))).length ≤ 64
  rw [TL.tl_num]
  exact numL_len hm
section
variable {P : Program} {w : World} {K : PySem.W.Frag} {mg : Str → Option Value} {base : Heap}
theorem scDec : FnScope ["number", "pieces", "piece"] ["number"] (defScope sDec) := ⟨rfl, rfl, rfl, by decide +kernel, rfl, by decide +kernel, by decide +kernel⟩
theorem ok_dec {f : Addr} {fd : FuncData} (F : Fun K "_decimal" "_decimal" sDec f fd) (T : Pc mg) : FnOk P w K mg base CX0 1 f fd ["number"] spDec := by
  obtain ⟨⟨t, mP⟩, mS, mA⟩ := T
  refine F.ok scDec (fun vs H Q E h => ?_) (fun cdv A outer s H vs Q E hr h => ?_)
  · obtain ⟨n, rfl, _⟩ := h
    rfl
  · obtain ⟨n, rfl, h0, h1, k⟩ := h
    refine ⟨_, pss_cons (ps_set (i := 1) scDec.nd rfl (Or.inl rfl) (pe_lst pa_nil))
      (pss_cons (ps_while PassesOwn.never (pt_cmpR op_ge (pv 0) (pe_gi rfl mP) (nomark _)) pss_never)
      (pss_cons (ps_expr (pe_bm PySem.F.plainAttrs_list PySem.F.slot_list_append PySem.F.type_list_append mt_append (pv 1) (pa_cons (pe_callTy call_str_int (by rfl) mS (by decide +kernel) (pa_cons (pv 0) pa_nil)) pa_nil)))
      (pss_one (ps_ret (pe_join pe_str (pe_revL (pv 1))))))), ?_⟩
    refine ⟨(by show 0 ≤ sizeLine; decide), fun p hp => ?_⟩
    refine while_by (fun σ H' => σ = [some (.int n), some (.ref p), none] ∧ H' = upd H p (.lst [])) (fun _ _ => 0) ⟨rfl, rfl⟩ ?_ (fun σ H Q Q' hq ⟨a, e, i, j, e1, e2, k2, e3, q⟩ => ⟨a, e, i, j, e1, e2, k2, e3, hq _ _ q⟩)
    rintro σ H' ⟨rfl, rfl⟩
    refine ⟨_, rfl, _, _, rfl, rfl, _, rfl, ?_⟩
    rw [decide_eq_false (by omega)]
    refine iteF ?_
    refine ⟨_, rfl, .inl ⟨rfl, _, SqL.of upd_same⟩, _, rfl, n, rfl, log2_lt (by omega), p, [], _, rfl, rfl, upd_same, (by show 0 < sizeLine; decide), ?_⟩
    refine ⟨⟨_, rfl⟩, _, rfl, p, [V.str (dec n)], rfl, SqL.of upd_same, fun q hq => ?_⟩
    refine ⟨_, q, [dec n], rfl, rfl, .inl (SqL.of upd_same), ?_, ?_⟩
    · have := dec_len h0 h1
      show ((dec n).length + 0) + 1 * (Str.ofString "").length ≤ _
      have e : (Str.ofString "").length = 0 := by decide +kernel
      omega
    · rw [TL.join_eq]
      refine k _ fun b o e => ?_
      have hb := ne_of_none e hp
      have : upd (upd H p (.lst [])) p (.lst ([] ++ [V.str (dec n)])) b = some o := by rw [upd_ne hb, upd_ne hb]; exact e
      rw [upd_ne (ne_of_none this hq)]
      exact this
theorem scSgn : FnScope ["number", "text"] ["number", "text"] (defScope sSgn) := ⟨rfl, rfl, rfl, by decide +kernel, rfl, by decide +kernel, by decide +kernel⟩
theorem ok_sgn {f : Addr} {fd : FuncData} (F : Fun K "_signed" "_signed" sSgn f fd) : FnOk P w K mg base CX0 1 f fd ["number", "text"] spSgn := by
  refine F.ok scSgn (fun vs H Q E h => ?_) (fun cdv A outer s H vs Q E hr h => ?_)
  · obtain ⟨n, z, rfl, _⟩ := h
    rfl
  · obtain ⟨n, z, rfl, hz, k⟩ := h
    refine ⟨_, pss_one (ps_ret (pe_ifExp (pt_cmpR op_lt (pv 0) pe_int (nomark _)) (pe_joined (.cons pe_str (.cons (pe_fmt (pv 1)) .nil))) (pe_joined (.cons pe_str (.cons (pe_fmt (pv 1)) .nil))))), ?_⟩
    have hs : z.length ≤ sizeLine := Nat.le_of_lt (small1000 hz)
    refine ⟨_, rfl, _, _, rfl, rfl, _, rfl, ?_⟩
    have hl3 : (sg n ++ z).length ≤ sizeLine := by rw [len_app, sg_len]; exact Nat.le_trans (by omega : 3 + z.length ≤ 1003) (by decide)
    have h3 : (sg n).length ≤ sizeLine := by rw [sg_len]; decide
    unfold sg at k hl3 h3
    by_cases hn : n < 0
    · rw [decide_eq_true hn]
      refine iteT ?_
      rw [if_pos hn] at k hl3 h3
      refine ⟨_, rfl, by rw [Str.empty_app]; exact h3, ?_⟩
      refine ⟨_, rfl, .inl ⟨z, rfl, hs, z, rfl, ?_, ?_⟩⟩
      · rw [Str.empty_app]; exact hl3
      · rw [Str.empty_app]; exact k
    · rw [decide_eq_false hn]
      refine iteF ?_
      rw [if_neg hn] at k hl3 h3
      refine ⟨_, rfl, by rw [Str.empty_app]; exact h3, ?_⟩
      refine ⟨_, rfl, .inl ⟨z, rfl, hs, z, rfl, ?_, ?_⟩⟩
      · rw [Str.empty_app]; exact hl3
      · rw [Str.empty_app]; exact k
theorem scTerm : FnScope ["name", "coefficient"] ["name", "coefficient"] (defScope sTerm) := ⟨rfl, rfl, rfl, by decide +kernel, rfl, by decide +kernel, by decide +kernel⟩
theorem ok_term {f fS fD : Addr} {fd dS dD : FuncData} (F : Fun K "_term" "_term" sTerm f fd) (T : Pc mg) (ES : FnOk P w K mg base CX0 1 fS dS ["number", "text"] spSgn) (GS : Df K mg "_signed" fS) (bS : Binds K dS ["number", "text"] [])
    (ED : FnOk P w K mg base CX0 1 fD dD ["number"] spDec) (GD : Df K mg "_decimal" fD) (bD : Binds K dD ["number"] []) : FnOk P w K mg base CX0 2 f fd ["name", "coefficient"] spTerm := by
  refine F.ok scTerm (fun vs H Q E h => ?_) (fun cdv A outer s H vs Q E hr h => ?_)
  · obtain ⟨n, z, rfl, _⟩ := h
    rfl
  · obtain ⟨n, z, rfl, hz, hn, k⟩ := h
    refine ⟨_, pss_cons (ps_if (pt_cmpR op_eq (pe_callB call_abs (by rfl) T.abs (by decide +kernel) (pa_cons (pv 1) pa_nil)) pe_int (nomark _)) (pss_one (ps_ret (pe_call ES hr rfl GS.mg GS.kp bS .nil pass0 (pa_cons (pv 1) (pa_cons (pv 0) pa_nil))))) pss_nil)
      (pss_one (ps_ret (pe_call ES hr rfl GS.mg GS.kp bS .nil pass0 (pa_cons (pv 1) (pa_cons
        (pe_joined (.cons (pe_fmt (pe_call ED hr rfl GD.mg GD.kp bD .nil pass0 (pa_cons (pe_callB call_abs (by rfl) T.abs (by decide +kernel) (pa_cons (pv 1) pa_nil)) pa_nil))) (.cons pe_str (.cons (pe_fmt (pv 0)) .nil)))) pa_nil))))), ?_⟩
    have ha0 : 0 ≤ aint n := by unfold aint; split <;> omega
    refine ⟨_, rfl, _, rfl, rfl, _, rfl, ?_⟩
    show if decide (V.int (aint n) = V.int 1) = true then _ else _
    refine ite2 (fun h1 => ?_) (fun h1 => ?_)
    · have h1' : aint n = 1 := V.int.inj (of_decide_eq_true h1)
      refine ⟨_, rfl, _, rfl, n, z, rfl, by omega, ?_⟩
      have := k H (Same.refl H)
      unfold term at this
      rw [if_pos h1'] at this
      exact this
    · have h1' : ¬ aint n = 1 := fun e => h1 (decide_eq_true (congrArg V.int e))
      refine ⟨_, rfl, _, rfl, _, rfl, aint n, rfl, ha0, hn, fun H2 s2 => ?_⟩
      have hd := dec_len ha0 hn
      have hs1 : (dec (aint n)).length ≤ sizeLine := Nat.le_of_lt (small1000 (by omega))
      have h1s : (Str.ofString "*").length = 1 := by decide +kernel
      refine .inl ⟨_, rfl, hs1, _, rfl, ?_, _, rfl, ?_, _, rfl, .inl ⟨z, rfl, Nat.le_of_lt (small1000 (by omega)), _, rfl, ?_, ?_⟩⟩
      · rw [Str.empty_app]; exact hs1
      · rw [Str.empty_app, len_app, h1s]; exact Nat.le_of_lt (small1000 (by omega))
      · rw [Str.empty_app, len_app, len_app, h1s]; exact Nat.le_of_lt (small1000 (by omega))
      · rw [Str.empty_app]
        refine ⟨n, _, rfl, ?_, ?_⟩
        · rw [len_app, len_app, h1s]; omega
        · have := k H2 s2
          unfold term at this
          rw [if_neg h1'] at this
          exact this
end
end OS
namespace OS
open PySem L2
/-- a dict comprehension over anything walked -/
theorem dc_it {J : It} {n : Nat} {G : Hp → Prop} {Y : Nat → Hp → V → Hp → Prop} (w : Walk J n G Y) {g : TG} {tt : TT} {tk tv : TE} {vs : List Nat} {σ : L2.St} {H1 : Hp} {D : Addr} {Qd : Hp → Prop} (Pv : Nat → Hp → Prop) (h0 : Pv 0 (upd H1 D (.dK []))) (hG : ∀ i H, i ≤ n → Pv i H → G H)
    (hs : ∀ i x H H', i < n → Pv i H → Y i H x H' → g x (wipe σ vs) H' fun σ2 H2 => wipe σ2 vs = wipe σ vs ∧ tt σ2 H2 fun b H3 =>
      if b = true then tk σ2 H3 fun y H4 => tv σ2 H4 fun z H5 => ∃ kvs k, y = kV k ∧ H5 D = some (.dK kvs) ∧ kvs.length < sizeLine ∧ Pv (i + 1) (upd H5 D (.dK (putK kvs k z))) else Pv (i + 1) H3) (hd : ∀ H, Pv n H → Qd H) :
    ∃ W : Nat → Nat → Hp → Prop, (∃ m, W 0 m (upd H1 D (.dK []))) ∧ ∀ i m H, W i m H →
      (J.stop i H ∧ Qd H) ∨ (J.go i H ∧ ∃ Nx : Hp → Prop, (∀ H', Nx H' → ∃ m', m' < m ∧ W (i + 1) m' H') ∧ ∀ x H', J.yld i H x H' → g x (wipe σ vs) H' fun σ2 H2 => wipe σ2 vs = wipe σ vs ∧ tt σ2 H2 fun b H3 =>
        if b = true then tk σ2 H3 fun y H4 => tv σ2 H4 fun z H5 => ∃ kvs k, y = kV k ∧ H5 D = some (.dK kvs) ∧ kvs.length < sizeLine ∧ Nx (upd H5 D (.dK (putK kvs k z))) else Nx H3) := by
  refine ⟨fun i m H => m = n - i ∧ i ≤ n ∧ Pv i H, ⟨n, by simp, Nat.zero_le _, h0⟩, ?_⟩
  rintro i m H ⟨rfl, hi, p⟩
  have q := hG i H hi p
  by_cases hlt : i < n
  · refine .inr ⟨w.goes i H hlt q, Pv (i + 1), fun H' p' => ⟨n - (i + 1), by omega, rfl, hlt, p'⟩, fun x H' y => ?_⟩
    exact hs i x H H' hlt p (w.yields i H x H' hlt q y)
  · have e : i = n := by omega
    subst e
    exact .inl ⟨w.stops H q, hd H p⟩
theorem FunD.ok0 {P : Program} {w : World} {K : PySem.W.Frag} {mg : Str → Option Value} {base : Heap} {x qual : Str} {params : Arguments} {body : List Stmt} {scope : Scope} {dvs : List V} {kws : List (Str × V)} {f : Addr} {fd : FuncData} {N ps : List Str} {k : Nat} {sp : Sp}
    (F : FunD K x qual params body scope dvs kws f fd) (S : FnScope N ps scope) (len : ∀ vs H Q E, sp vs H Q E → vs.length = ps.length)
    (hbody : ∀ (cdv : Value) (A : Around) (outer : List Env) (s : Shared) (H : Hp) (vs : List V) (Q : VK) (E : XK), Room k (A.deeper (PyProof.Rows.envOfC qual scope s.heap.objs.size f cdv)) → sp vs H Q E →
      ∃ t, PSs (cxOf CX0 P w K mg base N qual scope f cdv A outer s H E).nox body t ∧ t { nx := fun _ H' => Q .non H', rt := Q } (L2.start N vs) H) : FnOk P w K mg base CX0 (k + 1) f fd ps sp := by
  refine F.ok S len fun cdv A outer s H vs Q E hr h => ?_
  obtain ⟨t, h, q⟩ := hbody cdv A outer s H vs Q E hr h
  exact ⟨t, h.nox, q⟩
/-! ### a form as it stands -/
theorem kcc : ¬ (("_coefficients" : Str) = "_constant") := by decide +kernel
def ffl (d : Addr) (c : Int) : List (Str × V) := putF "_constant" (.int c) (putF "_coefficients" (.ref d) [])
theorem ffl_cf (d : Addr) (c : Int) : (ffl d c).lookup ("_coefficients" : Str) = some (.ref d) := by
  unfold ffl
  rw [lookup_putF, if_neg kcc, lookup_putF, if_pos rfl]
theorem ffl_ct (d : Addr) (c : Int) : (ffl d c).lookup ("_constant" : Str) = some (.int c) := by
  unfold ffl
  rw [lookup_putF, if_pos rfl]
theorem ffl_no (d : Addr) (c : Int) {m : Str} (h1 : ¬ m = "_constant") (h2 : ¬ m = "_coefficients") : (ffl d c).lookup m = none := by
  unfold ffl
  rw [lookup_putF, if_neg h1, lookup_putF, if_neg h2]
  rfl
/-- at p stands the form with the coefficients cs (names rising, none 0) and the constant c -/
structure FormAt (C : Addr) (H : Hp) (p : Addr) (cs : Cf) (c : Int) : Prop where
  ob : ∃ d dx, H p = some (.ins C dx (ffl d c)) ∧ H d = some (.dK (dk cs))
  can : Can cs
  len : cs.length < 64
  gd : ∀ e ∈ cs, good e.1 = true
theorem FormAt.same {C : Addr} {H H' : Hp} {p : Addr} {cs : Cf} {c : Int} (F : FormAt C H p cs c) (s : Same H H') : FormAt C H' p cs c := by
  obtain ⟨⟨d, dx, a, b⟩, k, l, g⟩ := F
  exact ⟨⟨d, dx, s _ _ a, s _ _ b⟩, k, l, g⟩
theorem FormAt.kb {C : Addr} {H H' : Hp} {p st cl : Addr} {cs : Cf} {c : Int} {m : Nat} (F : FormAt C H p cs c) (S : StAt H st cl m) (s : Kb st cl H H') : FormAt C H' p cs c := by
  obtain ⟨⟨d, dx, a, b⟩, k, l, g⟩ := F
  obtain ⟨⟨q, c', e1, _⟩, ⟨ns, e2, _⟩, _⟩ := S
  exact ⟨⟨d, dx, s _ _ a (ne_of a e1 (by intro z; cases z)) (ne_of a e2 (by intro z; cases z)), s _ _ b (ne_of b e1 (by intro z; cases z)) (ne_of b e2 (by intro z; cases z))⟩, k, l, g⟩
theorem good_len {z : Str} (h : good z = true) : z.length ≤ 6 ∧ 1 ≤ z.length := by
  unfold good at h
  have := Str.len_list z
  by_cases h1 : z = "mod"
  · rw [if_pos h1] at h; cases h
  · rw [if_neg h1] at h
    by_cases h2 : z.cps.toList.length < 1 ∨ 6 < z.cps.toList.length
    · rw [if_pos h2] at h; cases h
    · omega
structure FTx (K : PySem.W.Frag) (mg : Str → Option Value) (C : Addr) : Prop where
  cl : Cls K C
  nF : NoAttr K C "_coefficients"
  nT : NoAttr K C "_constant"
  srt : mg "sorted" = none
/-- Form.__init__(self, coefficients, constant), all keys names -/
def spInit (C : Addr) : Sp := fun vs H Q _ => ∃ (p dx d : Addr) (kvs : Cf) (c : Int), vs = [.ref p, .ref d, .int c] ∧ H p = some (.ins C dx []) ∧ H d = some (.dK (dk kvs)) ∧ (kvs.map (·.1)).Nodup ∧ kvs.length < 64 ∧ (∀ e ∈ kvs, good e.1 = true) ∧
  ∀ (cs : Cf) (H' : Hp), (∀ k, look cs k = look kvs k) → FormAt C H' p cs c → (∀ b o, H b = some o → b ≠ p → H' b = some o) → Q .non H'
section
variable {P : Program} {w : World} {K : PySem.W.Frag} {mg : Str → Option Value} {base : Heap}
abbrev nInit : List Str := ["self", "coefficients", "constant", "name", "names"]
theorem scInit : FnScope nInit ["self", "coefficients", "constant"] (defScope sForm_init) := ⟨rfl, rfl, rfl, by decide +kernel, rfl, by decide +kernel, by decide +kernel⟩
theorem ok_init {f fV C : Addr} {fd dV : FuncData} {dvs : List V} (F : FunD K "__init__" "Form.__init__" (defArgs sForm_init) (defBody sForm_init) (defScope sForm_init) dvs [] f fd) (T : FTx K mg C)
    (EV : FnOk P w K mg base CX0 1 fV dV ["text"] spValid) (GV : Df K mg "valid_name" fV) (bV : Binds K dV ["text"] []) : FnOk P w K mg base CX0 2 f fd ["self", "coefficients", "constant"] (spInit C) := by
  refine FunD.ok0 F scInit (fun vs H Q E h => ?_) (fun cdv A outer s H vs Q E hr h => ?_)
  · obtain ⟨p, dx, d, kvs, c, rfl, _⟩ := h
    rfl
  · obtain ⟨p, dx, d, kvs, c, rfl, hp, hd, nd, hlen, hgd, k⟩ := h
    have hu := hu_of hr
    refine ⟨_, pss_cons (ps_lock (ps_for PassesOwn.never rfl (pi_keys (pv 1)) (pg_name (i := 3) scInit.nd rfl (Or.inl rfl)) (pss_one (ps_if (pt_not (pt_val (pe_call EV hr rfl GV.mg GV.kp bV .nil pass0 (pa_cons (pv 3) pa_nil)))) pss_never pss_nil))))
      (pss_cons (ps_set (i := 4) scInit.nd rfl (Or.inl rfl) (pe_callB (call_sortedD rfl) (by rfl) T.srt (by decide +kernel) (pa_cons (pv 1) pa_nil)))
      (pss_cons (ps_fld (pv 0) (pe_dc (own := [("name", 3)]) (g := gName 3) rfl scInit.nd (pi_list (pv 4)) (blkOk_by (own := [("name", 3)]) (N := nInit) (sc := defScope sForm_init) (by decide +kernel))
          (fun _ _ _ _ _ => pg_name (i := 3) scInit.nd rfl (Or.inl rfl)) (fun _ _ _ _ _ => pts_one (pt_cmpR op_ne (pe_dget hu (pv 1) (pv 3) (fun _ _ => rfl)) pe_int (nomark _))) (fun _ _ _ _ _ => pv 3) (fun _ _ _ _ _ => pe_dget hu (pv 1) (pv 3) (fun _ _ => rfl))) rfl)
      (pss_one (ps_fld (pv 0) (pv 2) rfl)))), ?_⟩
    have npd : p ≠ d := ne_of hp hd (by intro z; cases z)
    refine ⟨d, _, hd, trivial, fun od => ?_⟩
    refine ⟨_, rfl, d, od, rfl, .inl ⟨_, upd_same, ?_⟩⟩
    refine for_it walk_keys (fun i σ H' => (∃ v, σ = [some (.ref p), some (.ref d), some (.int c), v, none]) ∧ Same (upd H d (.frz od (.dK (dk kvs)))) H') ⟨⟨none, rfl⟩, Same.refl _⟩ (fun i σ H' _ h => h.2 _ _ upd_same) ?_ ?_
    · rintro i x σ H1 H2 hi ⟨⟨v, rfl⟩, s1⟩ ⟨rfl, k', v', hkv, rfl⟩
      rw [dk_len] at hi
      have he : (dk kvs)[i]? = some (Sum.inr (kvs[i]).1, V.int (kvs[i]).2) := by
        unfold dk
        rw [List.getElem?_map, List.getElem?_eq_getElem hi]
        rfl
      rw [he] at hkv
      cases hkv
      have hg : good (kvs[i]).1 = true := hgd _ (List.getElem_mem hi)
      refine ⟨_, rfl, _, rfl, by have := (good_len hg).1; omega, fun H3 s3 => ?_⟩
      refine ⟨_, rfl, ?_⟩
      rw [hg]
      refine iteF ?_
      exact ⟨⟨_, rfl⟩, s1.trans s3⟩
    · rintro σ H1 ⟨⟨v, rfl⟩, s1⟩
      refine ⟨s1 _ _ upd_same, ?_⟩
      obtain ⟨H2, hH2⟩ : ∃ H2, H2 = upd H1 d (.dK (dk kvs)) := ⟨_, rfl⟩
      have s2 : Same H H2 := by
        intro b o e
        rw [hH2]
        by_cases hb : b = d
        · subst hb
          rw [upd_same, ← hd, e]
        · rw [upd_ne hb]
          exact s1 b o (by rw [upd_ne hb]; exact e)
      rw [← hH2]
      have hd2 := s2 _ _ hd
      refine ⟨_, rfl, d, dk kvs, kvs.map (·.1), rfl, Rd.of hd2, ?_, by rw [List.length_map]; exact hlen, fun ys l perm srt hl => ?_⟩
      · unfold dk
        rw [List.map_map, List.map_map]
        rfl
      have ynd : ys.Nodup := perm.nodup_iff.mpr nd
      have yasc : Asc ys := sorted_asc srt ynd
      have ylen : ys.length < 64 := by rw [perm.length_eq, List.length_map]; exact hlen
      have nld : l ≠ d := (ne_of_none hd2 hl).symm
      have npl : p ≠ l := ne_of_none (s2 _ _ hp) hl
      refine ⟨_, rfl, l, rfl, ⟨_, SqL.of upd_same⟩, fun D hD => ?_⟩
      obtain ⟨H3, hH3⟩ : ∃ H3, H3 = upd H2 l (.lst (ys.map V.str)) := ⟨_, rfl⟩
      rw [← hH3] at hD
      have s3 : Same H H3 := by
        intro b o e
        rw [hH3, upd_ne (ne_of_none (s2 b o e) hl)]
        exact s2 b o e
      have hl3 : H3 l = some (.lst (ys.map V.str)) := by rw [hH3]; exact upd_same
      rw [← hH3]
      have hlook : ∀ y ∈ ys, lookO kvs y = some (look kvs y) := by
        intro y hy
        have : y ∈ kvs.map (·.1) := perm.mem_iff.mp hy
        cases q : lookO kvs y with
        | none => exact absurd this (lookO_none.mp q)
        | some z => unfold look; rw [q]; rfl
      refine dc_it (walk_list (K := K) (a := l) (xs := ys.map V.str)) (fun i H' => Same H3 H' ∧ H' D = some (.dK (dk (pick (look kvs) (ys.take i))))) ⟨?_, ?_⟩ (fun i H' _ h => SqL.of (h.1 _ _ hl3)) ?_ ?_
      · intro b o e
        rw [upd_ne (ne_of_none e hD)]
        exact e
      · rw [upd_same]
        rfl
      · rintro i x H4 H5 hi ⟨s4, s5⟩ ⟨rfl, hx⟩
        rw [List.length_map] at hi
        have hyi : ys[i]? = some ys[i] := List.getElem?_eq_getElem hi
        rw [List.getElem?_map, hyi] at hx
        obtain rfl : V.str ys[i] = x := Option.some.inj hx
        have hmem : ys[i] ∈ ys := List.getElem_mem hi
        have hnew : ys[i] ∉ (pick (look kvs) (ys.take i)).map (·.1) := by
          rw [pick_names]
          intro m
          have m1 := (List.mem_filter.mp m).1
          have tk : ys.take (i + 1) = ys.take i ++ [ys[i]] := by rw [List.take_succ, hyi]; rfl
          have nd2 : (ys.take (i + 1)).Nodup := List.Sublist.nodup (List.take_sublist _ _) ynd
          rw [tk] at nd2
          exact (List.nodup_append.mp nd2).2.2 _ m1 _ (List.mem_singleton.mpr rfl) rfl
        have hd5 : H5 d = some (.dK (dk kvs)) := s4 _ _ (s3 _ _ hd)
        have hv : valV (dk kvs) (Sum.inr ys[i] : Key) = some (V.int (look kvs ys[i])) := by rw [valV_dk, hlook _ hmem]; rfl
        have hget : DGet H5 d (V.str ys[i]) (some (V.int (look kvs ys[i]))) := by rw [← hv]; exact DGet.k (k := Sum.inr ys[i]) hd5
        have htk : ys.take (i + 1) = ys.take i ++ [ys[i]] := by rw [List.take_succ, hyi]; rfl
        refine ⟨rfl, ?_⟩
        refine ⟨_, rfl, _, rfl, d, _, rfl, hget, rfl, _, rfl, ?_⟩
        by_cases hz : look kvs ys[i] = 0
        · rw [show (!decide (V.int (look kvs ys[i]) = V.int 0)) = false by rw [hz]; simp]
          refine iteF ?_
          refine ⟨s4, ?_⟩
          rw [htk, pick_snoc, if_neg (fun z => z hz)]
          exact s5
        · rw [show (!decide (V.int (look kvs ys[i]) = V.int 0)) = true by rw [decide_eq_false (fun z => hz (V.int.inj z))]; rfl]
          refine iteT ?_
          refine ⟨_, rfl, _, rfl, _, rfl, d, _, rfl, hget, _, Sum.inr ys[i], rfl, s5, ?_, ?_, ?_⟩
          · rw [dk_len]
            have h1 : (pick (look kvs) (ys.take i)).length ≤ ys.length := by
              unfold pick
              rw [List.length_map]
              exact Nat.le_trans (List.length_filter_le _ _) (by rw [List.length_take]; exact Nat.min_le_right _ _)
            exact small1000 (by omega)
          · intro b o e
            rw [upd_ne (ne_of_none e hD)]
            exact s4 b o e
          · rw [upd_same, dk_put_new hnew, htk, pick_snoc, if_pos hz]
      · rintro H4 ⟨s4, s5⟩
        rw [List.length_map, List.take_length] at s5
        have hp4 : H4 p = some (.ins C dx []) := s4 _ _ (s3 _ _ hp)
        have npD : p ≠ D := ne_of_none (s3 _ _ hp) hD
        refine ⟨_, rfl, p, C, dx, _, rfl, hp4, T.cl, T.nF, (by show 0 < 1000; decide), ?_⟩
        refine ⟨_, rfl, _, rfl, p, C, dx, _, rfl, upd_same, T.cl, T.nT, (by show 1 < 1000; decide), ?_⟩
        have hpk : ∀ q, look (pick (look kvs) ys) q = look kvs q := pick_look yasc fun q hq => perm.mem_iff.mpr (by
          cases Classical.em (q ∈ kvs.map (·.1)) with
          | inl z => exact z
          | inr z => exact absurd (look_none z) hq)
        refine k (pick (look kvs) ys) _ hpk ⟨⟨D, dx, upd_same, ?_⟩, pick_can yasc, ?_, ?_⟩ ?_
        · rw [upd_ne npD.symm, upd_ne npD.symm]
          exact s5
        · have h1 : (pick (look kvs) ys).length ≤ ys.length := by
            unfold pick
            rw [List.length_map]
            exact List.length_filter_le _ _
          omega
        · intro e he
          have hm : e.1 ∈ ys := by
            have : e.1 ∈ (pick (look kvs) ys).map (·.1) := List.mem_map.mpr ⟨e, he, rfl⟩
            rw [pick_names] at this
            exact (List.mem_filter.mp this).1
          obtain ⟨e', he', q⟩ := List.mem_map.mp (perm.mem_iff.mp hm)
          rw [← q]
          exact hgd e' he'
        · intro b o e hb
          rw [upd_ne hb, upd_ne hb]
          exact s4 _ _ (s3 _ _ e)
end
end OS
namespace OS
open PySem L2
def pieces (cs : Cf) (c : Int) : List Str := cs.map (fun e => term e.1 e.2) ++ (if c ≠ 0 ∨ cs = [] then [sg c ++ dec (aint c)] else [])
def joinedT (cs : Cf) (c : Int) : Str := Str.join (Str.ofString "") (pieces cs c)
/-- the text of a form -/
def ftext (cs : Cf) (c : Int) : Str := (if Txt.startswith (joinedT cs c) (Str.ofString " - ") = true then (Str.ofString "-") else (Str.ofString "")) ++ cutS (joinedT cs c) (some 3) none
/-- numbers that are written at once -/
structure Small (cs : Cf) (c : Int) : Prop where
  cs : ∀ e ∈ cs, aint e.2 < 10 ^ 64
  c : aint c < 10 ^ 64
def spStr (C : Addr) : Sp := fun vs H Q _ => ∃ (p : Addr) (cs : Cf) (c : Int), vs = [.ref p] ∧ FormAt C H p cs c ∧ Small cs c ∧ ∀ H', Same H H' → Q (.str (ftext cs c)) H'
theorem sum_le : ∀ (ys : List Str), (∀ y ∈ ys, y.length ≤ 100) → (ys.map (·.length)).sum ≤ 100 * ys.length
  | [], _ => Nat.le_refl _
  | y :: ys, h => by
    rw [List.map_cons, List.sum_cons, List.length_cons]
    have := sum_le ys fun z hz => h z (List.mem_cons_of_mem _ hz)
    have := h y List.mem_cons_self
    omega
theorem join_len : ∀ (ys : List Str), (Str.join (Str.ofString "") ys).length = (ys.map (·.length)).sum
  | [] => rfl
  | [y] => by simp [Str.join]
  | y :: z :: r => by
    show (y ++ (Str.ofString "") ++ Str.join (Str.ofString "") (z :: r)).length = _
    rw [len_app, len_app, join_len (z :: r)]
    have : (Str.ofString "").length = 0 := by decide +kernel
    rw [this]
    simp only [List.map_cons, List.sum_cons]
    omega
theorem aint0 (n : Int) : 0 ≤ aint n := by unfold aint; split <;> omega
theorem term_len {z : Str} {n : Int} (hz : z.length ≤ 10) (h : aint n < 10 ^ 64) : (term z n).length ≤ 100 := by
  unfold term
  rw [len_app, sg_len]
  split
  · omega
  · rw [len_app, len_app]
    have := dec_len (aint0 n) h
    have e : (Str.ofString "*").length = 1 := by decide +kernel
    omega
theorem pieces_len {cs : Cf} {c : Int} (S : Small cs c) (hl : cs.length < 64) (hg : ∀ e ∈ cs, good e.1 = true) : (∀ y ∈ pieces cs c, y.length ≤ 100) ∧ (pieces cs c).length ≤ 64 := by
  constructor
  · intro y hy
    unfold pieces at hy
    rcases List.mem_append.mp hy with h | h
    · obtain ⟨e, he, rfl⟩ := List.mem_map.mp h
      exact term_len (by have := (good_len (hg e he)).1; omega) (S.cs e he)
    · split at h
      · rw [List.mem_singleton.mp h, len_app, sg_len]
        have := dec_len (aint0 c) S.c
        omega
      · cases h
  · unfold pieces
    rw [List.length_append, List.length_map]
    split
    · show cs.length + 1 ≤ 64
      omega
    · show cs.length + 0 ≤ 64
      omega
theorem sameUpd {H H' : Hp} {p : Addr} {o : HO} (s : Same H H') (h : H p = none) : Same H (L2.upd H' p o) := fun b u e => by
  rw [upd_ne (ne_of_none e h)]
  exact s b u e
section
variable {P : Program} {w : World} {K : PySem.W.Frag} {mg : Str → Option Value} {base : Heap}
abbrev nStr : List Str := ["self", "pieces", "joined", "sign", "unsigned", "name", "coefficient"]
theorem scStr : FnScope nStr ["self"] (defScope sForm_str) := ⟨rfl, rfl, rfl, by decide +kernel, rfl, by decide +kernel, by decide +kernel⟩
theorem ok_str {f C fS fD fT : Addr} {fd dS dD dT : FuncData} (F : Fun K "__str__" "Form.__str__" sForm_str f fd) (T : FTx K mg C) (mA : mg "abs" = none)
    (ES : FnOk P w K mg base CX0 1 fS dS ["number", "text"] spSgn) (GS : Df K mg "_signed" fS) (bS : Binds K dS ["number", "text"] [])
    (ED : FnOk P w K mg base CX0 1 fD dD ["number"] spDec) (GD : Df K mg "_decimal" fD) (bD : Binds K dD ["number"] [])
    (ET : FnOk P w K mg base CX0 2 fT dT ["name", "coefficient"] spTerm) (GT : Df K mg "_term" fT) (bT : Binds K dT ["name", "coefficient"] []) : FnOk P w K mg base CX0 3 f fd ["self"] (spStr C) := by
  refine F.ok scStr (fun vs H Q E h => ?_) (fun cdv A outer s H vs Q E hr h => ?_)
  · obtain ⟨p, cs, c, rfl, _⟩ := h
    rfl
  · obtain ⟨p, cs, c, rfl, ⟨⟨d, dx, hp, hd⟩, can, hlen, hgd⟩, sm, k⟩ := h
    have hr1 : Room 1 _ := hr.mono (by decide)
    refine ⟨_, pss_cons (ps_lock (ps_setLc (i := 1) (own := [("name", 5), ("coefficient", 6)]) (g := gTup K 2 (gCons (gName 5) (gCons (gName 6) gNil))) (tt := tYes) rfl scStr.nd rfl rfl (sw_true rfl rfl rfl (by decide +kernel)) (pi_items (pe_fld (pv 0) rfl)) (blkOk_by (own := [("name", 5), ("coefficient", 6)]) (N := nStr) (sc := defScope sForm_str) (by decide +kernel))
          (fun _ _ _ _ _ => pg_tup rfl (pgs_cons (pg_name (i := 5) scStr.nd rfl (Or.inl rfl)) (pgs_cons (pg_name (i := 6) scStr.nd rfl (Or.inl rfl)) pgs_nil))) (fun _ _ _ _ _ => pts_nil)
          (fun _ _ _ _ _ => pe_call ET hr rfl GT.mg GT.kp bT .nil pass0 (pa_cons (pv 5) (pa_cons (pv 6) pa_nil)))))
      (C8.pss_cut (ps_if (PW.pt (pw_or (pt_cmpR op_ne (pe_fld (pv 0) rfl) pe_int (nomark _)) (pw_or1 (pt_not (pt_truth (pv 1) (by intro _; rfl))))))
        (pss_one (ps_expr (pe_bm PySem.F.plainAttrs_list PySem.F.slot_list_append PySem.F.type_list_append mt_append (pv 1) (pa_cons (pe_call ES hr1 rfl GS.mg GS.kp bS .nil pass0 (pa_cons (pe_fld (pv 0) rfl) (pa_cons
          (pe_call ED hr1 rfl GD.mg GD.kp bD .nil pass0 (pa_cons (pe_callB call_abs (by rfl) mA (by decide +kernel) (pa_cons (pe_fld (pv 0) rfl) pa_nil)) pa_nil)) pa_nil))) pa_nil)))) pss_nil)
      (pss_cons (ps_set (i := 2) scStr.nd rfl (Or.inl rfl) (pe_join pe_str (pv 1)))
      (pss_cons (ps_set (i := 3) scStr.nd rfl (Or.inl rfl) (pe_ifExp (pt_val (pe_m1 PySem.F.slot_str_startswith PySem.F.type_str_startswith mt_startswith (pv 2) pe_str)) pe_str pe_str))
      (pss_cons (ps_set (i := 4) scStr.nd rfl (Or.inl rfl) (pe_slice sl_str (pv 2) (po_some pe_int) po_none))
      (pss_one (ps_ret (pe_joined (.cons (pe_fmt (pv 3)) (.cons (pe_fmt (pv 4)) .nil))))))))), ?_⟩
    have npd : p ≠ d := ne_of hp hd (by intro z; cases z)
    refine ⟨d, _, hd, trivial, fun od => ?_⟩
    obtain ⟨H1, hH1⟩ : ∃ H1, H1 = upd H d (.frz od (.dK (dk cs))) := ⟨_, rfl⟩
    rw [← hH1]
    have hp1 : H1 p = some (.ins C dx (ffl d c)) := by rw [hH1, upd_ne npd]; exact hp
    have hd1 : H1 d = some (.frz od (.dK (dk cs))) := by rw [hH1]; exact upd_same
    refine ⟨_, rfl, p, C, dx, _, _, rfl, hp1, T.cl, T.nF, ffl_cf d c, d, od, _, rfl, hd1, fun D hD => ?_⟩
    refine lc_it walk_items (fun i H' => Same H1 H' ∧ H' D = some (.lst (((cs.take i).map fun e => term e.1 e.2).map V.str))) ⟨?_, ?_⟩ (fun i H' _ h => h.1 _ _ hd1) ?_ ?_
    · intro b o e
      rw [upd_ne (ne_of_none e hD)]
      exact e
    · rw [upd_same]
      rfl
    · rintro i x H2 H3 hi ⟨s1, s2⟩ ⟨t, x1, y1, rfl, nt, rfl, e1, e2⟩
      rw [dk_len] at hi
      have he : (dk cs)[i]? = some (Sum.inr (cs[i]).1, V.int (cs[i]).2) := by
        unfold dk
        rw [List.getElem?_map, List.getElem?_eq_getElem hi]
        rfl
      have e1 : Option.map (fun kv : Key × V => kV kv.1) (dk cs)[i]? = some x1 := e1
      have e2 : Option.map Prod.snd (dk cs)[i]? = some y1 := e2
      rw [he] at e1 e2
      cases e1
      cases e2
      have hm : cs[i] ∈ cs := List.getElem_mem hi
      refine ⟨t, _, rfl, .inl (.inl upd_same), rfl, _, _, rfl, _, _, rfl, rfl, rfl, ?_⟩
      refine ⟨_, rfl, _, rfl, _, _, rfl, by have := (good_len (hgd _ hm)).1; omega, sm.cs _ hm, fun H4 s4 => ?_⟩
      have sH : Same H2 H4 := fun b o e => s4 b o (by rw [upd_ne (ne_of_none e nt)]; exact e)
      refine ⟨_, sH _ _ s2, ?_, sameUpd (s1.trans sH) hD, ?_⟩
      · rw [List.length_map, List.length_map, List.length_take]
        exact small1000 (by omega)
      · rw [upd_same, List.take_succ, List.getElem?_eq_getElem hi, List.map_append, List.map_append]
        rfl
    · rintro H2 ⟨s1, s2⟩
      rw [dk_len, List.take_length] at s2
      refine ⟨s1 _ _ hd1, ?_⟩
      obtain ⟨H3, hH3⟩ : ∃ H3, H3 = upd H2 d (.dK (dk cs)) := ⟨_, rfl⟩
      rw [← hH3]
      have s3 : Same H H3 := by
        intro b o e
        rw [hH3]
        by_cases hb : b = d
        · subst hb
          rw [upd_same, ← hd, e]
        · rw [upd_ne hb]
          exact s1 b o (by rw [hH1, upd_ne hb]; exact e)
      have nDd : D ≠ d := (ne_of_none hd1 hD).symm
      have hD3 : H3 D = some (.lst ((cs.map fun e => term e.1 e.2).map V.str)) := by rw [hH3, upd_ne nDd]; exact s2
      have hDn : H D = none := by
        cases q : H D with
        | none => rfl
        | some o =>
          have : H1 D = some o := by rw [hH1, upd_ne nDd]; exact q
          rw [hD] at this
          cases this
      refine ⟨fun σ H' => σ = [some (.ref p), some (.ref D), none, none, none, none, none] ∧ Same H H' ∧ H' D = some (.lst ((pieces cs c).map V.str)), ?_, ?_⟩
      · refine ⟨_, rfl, p, C, dx, _, _, rfl, s3 _ _ hp, T.cl, T.nT, ffl_ct d c, rfl, _, rfl, ?_⟩
        have app : ∀ (h : c ≠ 0 ∨ cs = []), (tVar 1 : TE) [some (.ref p), some (.ref D), none, none, none, none, none] H3 (fun x H' => True) := fun _ => ⟨_, rfl, trivial⟩
        by_cases hc : c = 0
        · rw [show (!decide (V.int c = V.int 0)) = false by rw [hc]; simp]
          refine iteF ?_
          refine ⟨_, rfl, _, .inl ⟨_, SqL.of hD3, rfl⟩, ?_⟩
          by_cases h0 : cs = []
          · subst h0
            subst hc
            refine iteT ?_
            refine ⟨_, rfl, .inl ⟨rfl, _, SqL.of hD3⟩, _, rfl, p, C, dx, _, _, rfl, s3 _ _ hp, T.cl, T.nT, ffl_ct d 0, _, rfl, p, C, dx, _, _, rfl, s3 _ _ hp, T.cl, T.nT, ffl_ct d 0, _, rfl, 0, rfl, by decide, by decide, fun H4 s4 => ?_⟩
            refine ⟨0, _, rfl, ?_, D, _, _, rfl, rfl, s4 _ _ hD3, (by show 0 < sizeLine; decide), rfl, ?_, ?_⟩
            · have := dec_len (n := 0) (by decide) (by decide); omega
            · exact sameUpd (s3.trans s4) hDn
            · rw [upd_same]
              rfl
          · refine (show if (!(!((cs.map fun e => term e.1 e.2).map V.str).isEmpty)) = true then _ else _ from ?_)
            rw [show (!(!((cs.map fun e => term e.1 e.2).map V.str).isEmpty)) = false by
              cases cs with
              | nil => exact absurd rfl h0
              | cons a r => rfl]
            refine iteF ?_
            refine ⟨rfl, s3, ?_⟩
            rw [hD3]
            unfold pieces
            rw [if_neg (by rintro (z | z); exact z hc; exact h0 z), List.append_nil]
        · rw [show (!decide (V.int c = V.int 0)) = true by rw [decide_eq_false (fun z => hc (V.int.inj z))]; rfl]
          refine iteT ?_
          refine ⟨_, rfl, .inl ⟨rfl, _, SqL.of hD3⟩, _, rfl, p, C, dx, _, _, rfl, s3 _ _ hp, T.cl, T.nT, ffl_ct d c, _, rfl, p, C, dx, _, _, rfl, s3 _ _ hp, T.cl, T.nT, ffl_ct d c, _, rfl, aint c, rfl, aint0 c, sm.c, fun H4 s4 => ?_⟩
          refine ⟨c, _, rfl, ?_, D, _, _, rfl, rfl, s4 _ _ hD3, ?_, rfl, ?_, ?_⟩
          · have := dec_len (aint0 c) sm.c; omega
          · rw [List.length_map, List.length_map]
            exact small1000 (by omega)
          · exact sameUpd (s3.trans s4) hDn
          · rw [upd_same]
            unfold pieces
            rw [if_pos (Or.inl hc), List.map_append]
            rfl
      rintro σ' H4 ⟨rfl, s4, hD4⟩
      obtain ⟨pl1, pl2⟩ := pieces_len sm hlen hgd
      have hsum := sum_le _ pl1
      have hjl : (joinedT cs c).length ≤ 6400 := by unfold joinedT; rw [join_len]; omega
      have hjs : (joinedT cs c).length ≤ sizeLine := Nat.le_trans hjl (by decide)
      refine ⟨⟨_, rfl⟩, _, rfl, _, D, pieces cs c, rfl, rfl, .inl (SqL.of hD4), ?_, ?_⟩
      · rw [show (Str.ofString "").length = 0 by decide +kernel]
        omega
      rw [TL.join_eq]
      show tSeq _ _ _ [some (.ref p), some (.ref D), some (.str (joinedT cs c)), none, none, none, none] H4
      have fin := k H4 s4
      unfold ftext at fin
      have hcl : (cutS (joinedT cs c) (some 3) none).length ≤ 6400 := by
        rw [Str.len_list]
        show (((joinedT cs c).cps.toList.drop _).take _).length ≤ 6400
        rw [List.length_take, List.length_drop, ← Str.len_list]
        omega
      refine ⟨_, rfl, ⟨_, rfl⟩, _, _, rfl, rfl, _, rfl, ?_⟩
      by_cases hst : Txt.startswith (joinedT cs c) (Str.ofString " - ") = true
      all_goals first
        | (rw [if_pos hst] at fin
           rw [hst]
           refine iteT ?_)
        | (rw [if_neg hst] at fin
           rw [show Txt.startswith (joinedT cs c) (Str.ofString " - ") = false from by simpa using hst]
           refine iteF ?_)
      · refine ⟨_, rfl, _, rfl, _, rfl, hjs, ?_⟩
        refine ⟨_, rfl, .inl ⟨_, rfl, by decide +kernel, _, rfl, by decide +kernel, _, rfl, .inl ⟨_, rfl, Nat.le_trans hcl (by decide), _, rfl, ?_, ?_⟩⟩⟩
        · rw [Str.empty_app, len_app]
          have : (Str.ofString "-").length = 1 := by decide +kernel
          exact Nat.le_trans (by omega : _ ≤ 6401) (by decide)
        · rw [Str.empty_app]
          exact fin
      · refine ⟨_, rfl, _, rfl, _, rfl, hjs, ?_⟩
        refine ⟨_, rfl, .inl ⟨_, rfl, by decide +kernel, _, rfl, by decide +kernel, _, rfl, .inl ⟨_, rfl, Nat.le_trans hcl (by decide), _, rfl, ?_, ?_⟩⟩⟩
        · rw [Str.empty_app, len_app]
          have : (Str.ofString "").length = 0 := by decide +kernel
          exact Nat.le_trans (by omega : _ ≤ 6401) (by decide)
        · rw [Str.empty_app]
          exact fin
end
end OS
namespace OS
open PySem L2 PySem.Spec PyProof.Rows
section
variable {X : Cx}
/-- name = {.. : .. for ..} on one line, the name a local -/
theorem ps_setDc {i : Nat} {y : Str} {py : Pos} {kx vx tg iter : Expr} {ifs : List Expr} {scope : Scope} {own : List (Str × Nat)} {pos spos : Pos} {wi : TI} {g : TG} {tt : TT} {tk tv : TE} (hc : X.calm = true) (hN : X.N.Nodup) (hy : X.N[i]? = some y) (hyl : X.env.scope.names.lookup y = some .local)
    (hsw : swapsWith (.DictComp kx vx [⟨tg, iter, ifs, 0⟩] scope pos) (some (.Name y py)) spos.line X.env = pure true) (hi : PI X tg iter wi) (ok : BlkOk X.N X.env.scope scope own)
    (hg : ∀ (s : Shared) (H : Hp) (C : Addr) (cl : List (Str × Addr)) (fp : List Addr), PG (X.blk s H scope (compEnvC scope cl C X.env) fp) tg g) (ht : ∀ (s : Shared) (H : Hp) (C : Addr) (cl : List (Str × Addr)) (fp : List Addr), PTs (X.blk s H scope (compEnvC scope cl C X.env) fp) ifs tt)
    (hk : ∀ (s : Shared) (H : Hp) (C : Addr) (cl : List (Str × Addr)) (fp : List Addr), PE (X.blk s H scope (compEnvC scope cl C X.env) fp) kx tk)
    (he : ∀ (s : Shared) (H : Hp) (C : Addr) (cl : List (Str × Addr)) (fp : List Addr), PE (X.blk s H scope (compEnvC scope cl C X.env) fp) vx tv) (hs : ∀ x, foldedSetIterable iter X.env x = pure x := by intro _; rfl) :
    PS X (.Assign [.Name y py] (.DictComp kx vx [⟨tg, iter, ifs, 0⟩] scope pos) spos) (tAsg (tDc wi g tt tk tv (own.map (·.2))) (gName i)) := by
  refine ⟨fun pins s σ H D I h => ?_⟩
  rw [exec_Assign_Name_used _ _ _ _ hsw]
  refine wpAny_bind (wpAny_standAt (wpAny_bind ?_))
  show wpAny _ X.A (do let _ ← comprehension (.DictComp kx vx [⟨tg, iter, ifs, 0⟩] scope pos) scope X.env (firstIterPos [⟨tg, iter, ifs, 0⟩] pos) newDict false (eval iter X.env) (some (assign (.Name y py) X.env))) _ _ s
  have h : tDc wi g tt tk tv (own.map (·.2)) σ H (fun x H1 => gName i x σ H1 D.nx) := h
  refine wpAny_bind (thn (dc_core (Qf := fun _ s' => SP X pins D .next s') hc hN I hi ok hg ht hk he hs h fun L C s' m H' I' q hn f => ?_) fun _ s' hq => wpAny_pure (wpAny_pure hq))
  show wpAny _ _ (assign (.Name y py) X.env (.ref L)) _ _ _
  refine wpAny_assign_Name (store_ok2 (v := V.ref L) I' hN hy (.inl hyl) rfl (fun s2 I2 ⟨a, sb, ha⟩ => ?_) (.inr hyl))
  obtain ⟨f0, f1, f2, f3, f4, f5⟩ := f
  have haC : C ≠ a := by
    rcases ha with z | z
    · rw [z]; exact f1
    · exact fun e => f4 y a z e.symm
  refine ⟨m, hn.sameBut sb haC, fun h3 sb3 => ?_⟩
  exact ⟨_, H', I2.turned (t' := s2.toks) (fun b o hb e => (sb3.2 b hb).trans e) f0 f1 f3 f4 f5, q⟩
theorem sw_trueD {kx vx : Expr} {gs : List Comprehension} {scope : Scope} {pos py : Pos} {y : Str} {l : Nat} {env : Env} (hk : env.scope.kind = .function) (hy : env.scope.names.lookup y = some .local) (hl : (py.line == pos.line) = true)
    (ha : (scope.names.any fun (n, k) => n == y && (k == .local || k == .cell)) = false) : swapsWith (.DictComp kx vx gs scope pos) (some (.Name y py)) l env = pure true := by
  have ky : env.kindOf y = some .local := hy
  have hb : env.blockKind = .function := by unfold Env.blockKind; rw [hk]; rfl
  unfold swapsWith
  simp only [hb, ky, ha, Expr.pos, hl]
  rfl
end
/-- multiples of a form: int on the right -/
def spMul (C : Addr) : Sp := fun vs H Q _ => ∃ (p : Addr) (cs : Cf) (c k : Int), vs = [.ref p, .int k] ∧ FormAt C H p cs c ∧ (k.natAbs < 10 ^ 18 ∨ ((∀ e ∈ cs, e.2.natAbs < 10 ^ 18) ∧ c.natAbs < 10 ^ 18)) ∧
  ∀ (q : Addr) (ds : Cf) (H' : Hp), (∀ x, look ds x = look cs x * k) → FormAt C H' q ds (c * k) → Same H H' → H q = none → Q (.ref q) H'
/-- the negative -/
def spNeg (C : Addr) : Sp := fun vs H Q _ => ∃ (p : Addr) (cs : Cf) (c : Int), vs = [.ref p] ∧ FormAt C H p cs c ∧
  ∀ (q : Addr) (ds : Cf) (H' : Hp), (∀ x, look ds x = - look cs x) → FormAt C H' q ds (- c) → Same H H' → H q = none → Q (.ref q) H'
/-- what an operator of Form asks of its class and of int -/
structure OpF (K : PySem.W.Frag) (C : Addr) (m r : Str) (f : Addr) : Prop where
  own : Own K C m f
  first : PySem.W.selfFirst K C = true
  back : ∃ g : Addr, PySem.W.findIn K (.ref C) r = some (some (.ref g))
  int1 : ∃ fo, PySem.W.findIn K (.type "int") m = some fo
  int2 : ∃ ro, PySem.W.findIn K (.type "int") r = some ro
  sub : PySem.W.subIn K (.type "int") (.ref C) = some false
def mulC (cs : Cf) (k : Int) : Cf := cs.map fun e => (e.1, e.2 * k)
theorem mulC_names (cs : Cf) (k : Int) : (mulC cs k).map (·.1) = cs.map (·.1) := by
  unfold mulC
  rw [List.map_map]
  rfl
theorem mulC_look (k : Int) : ∀ (cs : Cf) (x : Str), look (mulC cs k) x = look cs x * k
  | [], x => by simp [look, lookO, mulC]
  | e :: r, x => by
    have ih := mulC_look k r x
    unfold look at ih ⊢
    show (lookO ((e.1, e.2 * k) :: mulC r k) x).getD 0 = _
    rw [lookO_cons, lookO_cons]
    by_cases h : e.1 = x
    · rw [if_pos h, if_pos h]; rfl
    · rw [if_neg h, if_neg h]; exact ih
section
variable {P : Program} {w : World} {K : PySem.W.Frag} {mg : Str → Option Value} {base : Heap}
abbrev nMul : List Str := ["self", "other", "multiplied", "name", "coefficient"]
theorem scMul : FnScope nMul ["self", "other"] (defScope sForm_mul) := ⟨rfl, rfl, rfl, by decide +kernel, rfl, by decide +kernel, by decide +kernel⟩
theorem ok_mul {f fI C : Addr} {fd dI : FuncData} (F : Fun K "__mul__" "Form.__mul__" sForm_mul f fd) (T : FTx K mg C) (mI : mg "isinstance" = none) (mN : mg "int" = none) (mC : mg "Form" = some (.ref C)) (M : Mk K C fI)
    (EI : FnOk P w K mg base CX0 2 fI dI ["self", "coefficients", "constant"] (spInit C)) (bI : Binds K dI ["self", "coefficients", "constant"] []) : FnOk P w K mg base CX0 4 f fd ["self", "other"] (spMul C) := by
  refine F.ok scMul (fun vs H Q E h => ?_) (fun cdv A outer s H vs Q E hr h => ?_)
  · obtain ⟨p, cs, c, kk, rfl, _⟩ := h
    rfl
  · obtain ⟨p, cs, c, kk, rfl, FA, hk, k⟩ := h
    obtain ⟨⟨d, dx, hp, hd⟩, can, hlen, hgd⟩ := id FA
    have hr1 : Room 3 _ := hr
    refine ⟨_, pss_cons (ps_if (pt_not (pt_val (pe_callB call_isi (by rfl) mI (by decide +kernel) (pa_cons (pv 1) (pa_cons (pe_bltn (v := V.ty "int") (u := .type "int") (by rfl) mN (by decide +kernel) rfl) pa_nil))))) pss_never pss_nil)
      (pss_cons (ps_lock (ps_setDc (i := 2) (own := [("name", 3), ("coefficient", 4)]) (g := gTup K 2 (gCons (gName 3) (gCons (gName 4) gNil))) (tt := tYes) rfl scMul.nd rfl rfl (sw_trueD rfl rfl rfl (by decide +kernel)) (pi_items (pe_fld (pv 0) rfl)) (blkOk_by (own := [("name", 3), ("coefficient", 4)]) (N := nMul) (sc := defScope sForm_mul) (by decide +kernel))
          (fun _ _ _ _ _ => pg_tup rfl (pgs_cons (pg_name (i := 3) scMul.nd rfl (Or.inl rfl)) (pgs_cons (pg_name (i := 4) scMul.nd rfl (Or.inl rfl)) pgs_nil))) (fun _ _ _ _ _ => pts_nil)
          (fun _ _ _ _ _ => pv 3) (fun _ _ _ _ _ => pe_op op_mul (pv 4) (pv 1))))
      (pss_one (ps_ret (pe_make M EI hr1 rfl mC bI .nil pass0 (pa_cons (pv 2) (pa_cons (pe_op op_mul (pe_fld (pv 0) rfl) (pv 1)) pa_nil)))))), ?_⟩
    have npd : p ≠ d := ne_of hp hd (by intro z; cases z)
    refine ⟨_, rfl, _, _, _, _, true, rfl, .ty "int", .base (.int _), kit_ty (by decide +kernel), _, rfl, ?_⟩
    refine iteF ?_
    refine ⟨d, _, hd, trivial, fun od => ?_⟩
    obtain ⟨H1, hH1⟩ : ∃ H1, H1 = upd H d (.frz od (.dK (dk cs))) := ⟨_, rfl⟩
    rw [← hH1]
    have hp1 : H1 p = some (.ins C dx (ffl d c)) := by rw [hH1, upd_ne npd]; exact hp
    have hd1 : H1 d = some (.frz od (.dK (dk cs))) := by rw [hH1]; exact upd_same
    have hmul : ∀ e ∈ cs, CMul e.2 kk := by
      intro e he
      rcases hk with h | h
      · exact .inr ⟨by omega, by omega⟩
      · have := h.1 e he
        exact .inl ⟨by omega, by omega⟩
    have hmulc : CMul c kk := by
      rcases hk with h | h
      · exact .inr ⟨by omega, by omega⟩
      · have := h.2
        exact .inl ⟨by omega, by omega⟩
    refine ⟨_, rfl, p, C, dx, _, _, rfl, hp1, T.cl, T.nF, ffl_cf d c, d, od, _, rfl, hd1, fun D hD => ?_⟩
    refine dc_it walk_items (fun i H' => Same H1 H' ∧ H' D = some (.dK (dk (mulC (cs.take i) kk)))) ⟨?_, ?_⟩ (fun i H' _ h => h.1 _ _ hd1) ?_ ?_
    · intro b o e
      rw [upd_ne (ne_of_none e hD)]
      exact e
    · rw [upd_same]
      rfl
    · rintro i x H2 H3 hi ⟨s1, s2⟩ ⟨t, x1, y1, rfl, nt, rfl, e1, e2⟩
      rw [dk_len] at hi
      have he : (dk cs)[i]? = some (Sum.inr (cs[i]).1, V.int (cs[i]).2) := by
        unfold dk
        rw [List.getElem?_map, List.getElem?_eq_getElem hi]
        rfl
      have e1 : Option.map (fun kv : Key × V => kV kv.1) (dk cs)[i]? = some x1 := e1
      have e2 : Option.map Prod.snd (dk cs)[i]? = some y1 := e2
      rw [he] at e1 e2
      cases e1
      cases e2
      have hm : cs[i] ∈ cs := List.getElem_mem hi
      have htk : cs.take (i + 1) = cs.take i ++ [cs[i]] := by rw [List.take_succ, List.getElem?_eq_getElem hi]; rfl
      have hnew : (cs[i]).1 ∉ (mulC (cs.take i) kk).map (·.1) := by
        rw [mulC_names]
        intro m
        have nd2 : ((cs.take (i + 1)).map (·.1)).Nodup := List.Sublist.nodup (List.Sublist.map _ (List.take_sublist _ _)) can.nd
        rw [htk, List.map_append] at nd2
        exact (List.nodup_append.mp nd2).2.2 _ m _ (List.mem_singleton.mpr rfl) rfl
      have hDt : (upd H2 t (.tup [V.str (cs[i]).1, V.int (cs[i]).2])) D = some (.dK (dk (mulC (cs.take i) kk))) := by
        rw [upd_ne (ne_of_none s2 nt)]
        exact s2
      refine ⟨t, _, rfl, .inl (.inl upd_same), rfl, _, _, rfl, _, _, rfl, rfl, rfl, ?_⟩
      refine ⟨_, rfl, _, rfl, _, rfl, _, _, rfl, rfl, hmul _ hm, _, Sum.inr (cs[i]).1, rfl, hDt, ?_, ?_, ?_⟩
      · rw [dk_len]
        unfold mulC
        rw [List.length_map, List.length_take]
        exact small1000 (by omega)
      · exact sameUpd (sameUpd s1 (s1.free nt)) hD
      · rw [upd_same, dk_put_new hnew, htk]
        unfold mulC
        rw [List.map_append]
        rfl
    · rintro H2 ⟨s1, s2⟩
      rw [dk_len, List.take_length] at s2
      refine ⟨s1 _ _ hd1, ?_⟩
      obtain ⟨H3, hH3⟩ : ∃ H3, H3 = upd H2 d (.dK (dk cs)) := ⟨_, rfl⟩
      rw [← hH3]
      have s3 : Same H H3 := by
        intro b o e
        rw [hH3]
        by_cases hb : b = d
        · subst hb
          rw [upd_same, ← hd, e]
        · rw [upd_ne hb]
          exact s1 b o (by rw [hH1, upd_ne hb]; exact e)
      have nDd : D ≠ d := (ne_of_none hd1 hD).symm
      have hD3 : H3 D = some (.dK (dk (mulC cs kk))) := by rw [hH3, upd_ne nDd]; exact s2
      refine ⟨_, rfl, _, rfl, p, C, dx, _, _, rfl, s3 _ _ hp, T.cl, T.nT, ffl_ct d c, _, rfl, _, _, rfl, rfl, hmulc, ?_⟩
      intro q qd nq nqd nqq
      have s4 : Same H3 (upd (upd H3 qd (.own q)) q (.ins C qd [])) := sameUpd (sameUpd (Same.refl _) nqd) nq
      refine ⟨q, qd, D, mulC cs kk, c * kk, rfl, upd_same, s4 _ _ hD3, ?_, ?_, ?_, fun ds H5 hl FA5 s5 => ⟨rfl, ?_⟩⟩
      · rw [mulC_names]; exact can.nd
      · unfold mulC; rw [List.length_map]; exact hlen
      · intro e he
        obtain ⟨e', he', rfl⟩ := List.mem_map.mp he
        exact hgd e' he'
      · refine k q ds H5 (fun x => by rw [hl, mulC_look]) FA5 (fun b o e => ?_) (s3.free nq)
        exact s5 b o (s4 _ _ (s3 _ _ e)) (ne_of_none (s3 _ _ e) nq)
theorem scNeg : FnScope ["self"] ["self"] (defScope sForm_neg) := ⟨rfl, rfl, rfl, by decide +kernel, rfl, by decide +kernel, by decide +kernel⟩
theorem ok_neg {f fM C : Addr} {fd dM : FuncData} (F : Fun K "__neg__" "Form.__neg__" sForm_neg f fd) (EM : FnOk P w K mg base CX0 4 fM dM ["self", "other"] (spMul C)) (bM : Binds K dM ["self", "other"] []) (O : OpF K C "__mul__" "__rmul__" fM) :
    FnOk P w K mg base CX0 5 f fd ["self"] (spNeg C) := by
  refine F.ok scNeg (fun vs H Q E h => ?_) (fun cdv A outer s H vs Q E hr h => ?_)
  · obtain ⟨p, cs, c, rfl, _⟩ := h
    rfl
  · obtain ⟨p, cs, c, rfl, FA, k⟩ := h
    obtain ⟨⟨d, dx, hp, hd⟩, can, hlen, hgd⟩ := id FA
    obtain ⟨g, hb⟩ := O.back
    obtain ⟨fo, h1⟩ := O.int1
    obtain ⟨ro, h2⟩ := O.int2
    refine ⟨_, pss_one (ps_ret (pe_op (op_ownI (op := .Mult) EM O.own O.first hb (.inr ⟨g, rfl⟩) h1 h2 O.sub hr bM pass0) (pv 0) (pe_un un_neg pe_int))), ?_⟩
    refine ⟨_, rfl, _, rfl, p, dx, _, _, rfl, rfl, hp, p, cs, c, _, rfl, FA, .inl (by decide), fun q ds H' hl FA' s' nq => ?_⟩
    have e1 : c * -1 = - c := by omega
    refine k q ds H' (fun x => by rw [hl]; omega) ?_ s' nq
    rw [← e1]
    exact FA'
end
end OS
namespace OS
open PySem L2
/-! ### drawn names, integers, parts -/
theorem StAt.mono {H : Hp} {st cl : Addr} {m n : Nat} (S : StAt H st cl m) (h : m ≤ n) : StAt H st cl n := by
  obtain ⟨⟨p, c, a, b, d⟩, e, f⟩ := S
  exact ⟨⟨p, c, a, b, by omega⟩, e, f⟩
theorem Kb.refl {st cl : Addr} (H : Hp) : Kb st cl H H := fun _ _ e _ _ => e
theorem Kb.trans {st cl : Addr} {H H1 H2 : Hp} (a : Kb st cl H H1) (b : Kb st cl H1 H2) : Kb st cl H H2 := fun x o e h1 h2 => b x o (a x o e h1 h2) h1 h2
theorem Kb.same {st cl : Addr} {H H1 H2 : Hp} (a : Kb st cl H H1) (b : Same H1 H2) : Kb st cl H H2 := fun x o e h1 h2 => b x o (a x o e h1 h2)
theorem Kb.new {st cl D : Addr} {H H1 : Hp} {o : HO} (a : Kb st cl H H1) (h : H D = none) : Kb st cl H (L2.upd H1 D o) := fun x u e h1 h2 => by
  rw [upd_ne (ne_of_none e h)]
  exact a x u e h1 h2
/-- what is free behind draws was free ahead -/
theorem StAt.free {st cl D : Addr} {H H1 : Hp} {m n : Nat} (S : StAt H st cl m) (S1 : StAt H1 st cl n) (a : Kb st cl H H1) (h : H1 D = none) : H D = none := by
  obtain ⟨d1, d2⟩ := S1.nst h
  cases q : H D with
  | none => rfl
  | some o => rw [a D o q d1 d2] at h; cases h
abbrev chS : Str := "abcdefghijklmnopqrstuvwxyz0123456789"
theorem chS_len : chS.cps.toList.length = 36 := by decide +kernel
theorem chS_low : ∀ j : Fin 26, chS.cps.toList[j.val]'(by rw [chS_len]; omega) ∈ lowL.cps.toList := by decide +kernel
theorem chS_ok : ∀ j : Fin 36, chOk (chS.cps.toList[j.val]'(by rw [chS_len]; exact j.isLt)) = true := by decide +kernel
theorem good_of {z : Str} {c : Nat} {r : List Nat} (e : z.cps.toList = c :: r) (hl : r.length ≤ 5) (hc : c ∈ lowL.cps.toList) (hr : ∀ x ∈ r, chOk x = true) (hm : z ≠ "mod") : good z = true := by
  unfold good
  rw [if_neg hm, e, if_neg (by simp; omega)]
  show (if c ∈ lowL.cps.toList then _ else _) = true
  rw [if_pos hc, List.all_cons]
  rw [show chOk c = true by unfold chOk; rw [decide_eq_true hc]; rfl, Bool.true_and]
  exact List.all_eq_true.mpr hr
theorem tl_sign (c : Nat) : TL.tl (⟨#[c]⟩ : Str) = [c] := rfl
def spName : Sp := fun vs H Q _ => ∃ (st cl : Addr) (m : Nat), vs = [.ref st] ∧ StAt H st cl m ∧ m ≤ 900000000 ∧
  ∀ (z : Str) (H' : Hp), good z = true → StAt H' st cl (m + 8) → Kb st cl H H' → Q (.str z) H'
/-- the size of a drawn integer -/
def Bnd (n : Int) : Prop := n.natAbs ≤ 21000000000000000000000000000
def spInt : Sp := fun vs H Q _ => ∃ (st cl : Addr) (m : Nat), vs = [.ref st] ∧ StAt H st cl m ∧ m ≤ 900000000 ∧
  ∀ (n : Int) (H' : Hp), Bnd n → StAt H' st cl (m + 3) → Kb st cl H H' → Q (.int n) H'
/-- drawn parts -/
structure PartsOk (kvs : Cf) (n : Nat) : Prop where
  nd : (kvs.map (·.1)).Nodup
  len : kvs.length ≤ n
  gd : ∀ e ∈ kvs, good e.1 = true
  bd : ∀ e ∈ kvs, Bnd e.2
def spParts : Sp := fun vs H Q _ => ∃ (st cl : Addr) (m : Nat), vs = [.ref st] ∧ StAt H st cl m ∧ m ≤ 800000000 ∧
  ∀ (d : Addr) (kvs : Cf) (H' : Hp), H d = none → H' d = some (.dK (dk kvs)) → PartsOk kvs 4 → StAt H' st cl (m + 100) → Kb st cl H H' → Q (.ref d) H'
section
variable {P : Program} {w : World} {K : PySem.W.Frag} {mg : Str → Option Value} {base : Heap}
abbrev nName : List Str := ["_law_state", "_law_chars", "_law_size", "_law_name_here", "_law_k"]
theorem scName : FnScope nName ["_law_state"] (defScope s_name) := ⟨rfl, rfl, rfl, by decide +kernel, rfl, by decide +kernel, by decide +kernel⟩
theorem ok_name {f fT : Addr} {fd dT : FuncData} (F : Fun K "_law_name" "_law_name" s_name f fd) (mR : mg "range" = none)
    (ET : FnOk P w K mg base CX0 1 fT dT ["_law_state", "_law_limit"] spTake) (GT : Df K mg "_law_take" fT) (bT : Binds K dT ["_law_state", "_law_limit"] []) : FnOk P w K mg base CX0 2 f fd ["_law_state"] spName := by
  refine F.ok scName (fun vs H Q E h => ?_) (fun cdv A outer s H vs Q E hr h => ?_)
  · obtain ⟨st, cl, m, rfl, _⟩ := h
    rfl
  · obtain ⟨st, cl, m, rfl, S, hm, k⟩ := h
    refine ⟨_, pss_cons (ps_set (i := 1) scName.nd rfl (Or.inl rfl) pe_str)
      (pss_cons (ps_set (i := 2) scName.nd rfl (Or.inl rfl) (pe_call ET hr rfl GT.mg GT.kp bT .nil pass0 (pa_cons (pv 0) (pa_cons pe_int pa_nil))))
      (pss_cons (ps_set (i := 3) scName.nd rfl (Or.inl rfl) (pe_ix ix_str (pv 1) (pe_call ET hr rfl GT.mg GT.kp bT .nil pass0 (pa_cons (pv 0) (pa_cons pe_int pa_nil))) fun _ _ => rfl))
      (pss_cons (ps_for PassesOwn.never rfl (pi_range1 rfl mR (pa_cons (pv 2) pa_nil)) (pg_name (i := 4) scName.nd rfl (Or.inl rfl))
        (pss_one (ps_set (i := 3) scName.nd rfl (Or.inl rfl) (pe_op op_add_str (pv 3) (pe_ix ix_str (pv 1) (pe_call ET hr rfl GT.mg GT.kp bT .nil pass0 (pa_cons (pv 0) (pa_cons pe_int pa_nil))) fun _ _ => rfl)))))
      (C8.pss_cut (ps_if (pt_cmpR op_eq (pv 3) pe_str (nomark _)) (pss_one (ps_set (i := 3) scName.nd rfl (Or.inl rfl) pe_str)) pss_nil)
      (pss_one (ps_ret (pv 3))))))), ?_⟩
    have hcl : chS.length ≤ sizeLine := by decide +kernel
    refine ⟨_, rfl, st, cl, m, 6, rfl, S, by omega, by decide, by decide, fun size H1 z0 z1 S1 k1 => ?_⟩
    refine ⟨_, rfl, _, rfl, st, cl, m + 1, 26, rfl, S1, by omega, by decide, by decide, fun c H2 c0 c1 S2 k2 => ?_⟩
    have hc : c.toNat < 26 := by omega
    have hlow := chS_low ⟨c.toNat, hc⟩
    have hci : c.toNat < chS.cps.toList.length := by rw [chS_len]; omega
    refine ⟨chS, _, _, rfl, rfl, hcl, atI_in c0 (List.getElem?_eq_getElem hci), ?_⟩
    refine ⟨_, rfl, _, rfl, by omega, by omega, for_range (lo := 0) (n := size.toNat) (fun i σ H' => ∃ (z : Str) (r : List Nat) (v : Option V), σ = [some (.ref st), some (.str chS), some (.int size), some (.str z), v] ∧ z.cps.toList = (chS.cps.toList[c.toNat]) :: r ∧ r.length = i ∧ (∀ x ∈ r, chOk x = true) ∧ StAt H' st cl (m + 2 + i) ∧ Kb st cl H H')
      ⟨_, [], none, rfl, rfl, rfl, (fun x hx => by cases hx), S2, k1.trans k2⟩ ?_ ?_⟩
    · rintro i σ H3 hi ⟨z, r, v, rfl, hz, hrl, hr', S3, k3⟩
      refine ⟨_, rfl, _, rfl, _, rfl, st, cl, m + 2 + i, 36, rfl, S3, by omega, by decide, by decide, fun e H4 e0 e1 S4 k4 => ?_⟩
      have he : e.toNat < 36 := by omega
      have hok := chS_ok ⟨e.toNat, he⟩
      have hei : e.toNat < chS.cps.toList.length := by rw [chS_len]; omega
      refine ⟨chS, _, _, rfl, rfl, hcl, atI_in e0 (List.getElem?_eq_getElem hei), ?_⟩
      refine ⟨_, _, rfl, rfl, ?_, ?_⟩
      · have : z.length = 1 + i := by rw [Str.len_list, hz, List.length_cons, hrl]; omega
        show z.length + 1 ≤ sizeLine
        exact Nat.le_of_lt (small1000 (by omega))
      · refine ⟨_, r ++ [chS.cps.toList[e.toNat]], _, rfl, ?_, by rw [List.length_append, hrl]; rfl, ?_, S4.mono (by omega), k3.trans k4⟩
        · show TL.tl (z ++ _) = _
          rw [TL.tl_append, tl_sign]
          show z.cps.toList ++ _ = _
          rw [hz]
          rfl
        · intro x hx
          rcases List.mem_append.mp hx with q | q
          · exact hr' x q
          · cases List.mem_singleton.mp q; exact hok
    · rintro σ H3 ⟨z, r, v, rfl, hz, hrl, hr', S3, k3⟩
      refine ⟨fun σ H' => H' = H3 ∧ ∃ z : Str, good z = true ∧ σ = [some (.ref st), some (.str chS), some (.int size), some (.str z), v], ?_, ?_⟩
      · refine ⟨_, rfl, rfl, _, rfl, ?_⟩
        refine ite2 (fun _ => ?_) (fun h => ?_)
        · exact ⟨rfl, _, by decide +kernel, rfl⟩
        · refine ⟨rfl, z, good_of hz (by omega) hlow hr' (fun e => h (decide_eq_true (congrArg V.str e))), rfl⟩
      · rintro σ H4 ⟨rfl, z, hg, rfl⟩
        refine ⟨_, rfl, ?_⟩
        exact k z H4 hg (S3.mono (by omega)) k3
abbrev nInt : List Str := ["_law_state", "_law_plan", "_law_number"]
theorem scInt : FnScope nInt ["_law_state"] (defScope s_integer) := ⟨rfl, rfl, rfl, by decide +kernel, rfl, by decide +kernel, by decide +kernel⟩
theorem ok_int {f fT : Addr} {fd dT : FuncData} (F : Fun K "_law_integer" "_law_integer" s_integer f fd)
    (ET : FnOk P w K mg base CX0 1 fT dT ["_law_state", "_law_limit"] spTake) (GT : Df K mg "_law_take" fT) (bT : Binds K dT ["_law_state", "_law_limit"] []) : FnOk P w K mg base CX0 2 f fd ["_law_state"] spInt := by
  refine F.ok scInt (fun vs H Q E h => ?_) (fun cdv A outer s H vs Q E hr h => ?_)
  · obtain ⟨st, cl, m, rfl, _⟩ := h
    rfl
  · obtain ⟨st, cl, m, rfl, S, hm, k⟩ := h
    refine ⟨_, pss_cons (ps_set (i := 1) scInt.nd rfl (Or.inl rfl) (pe_call ET hr rfl GT.mg GT.kp bT .nil pass0 (pa_cons (pv 0) (pa_cons pe_int pa_nil))))
      (pss_cons (ps_set (i := 2) scInt.nd rfl (Or.inl rfl) (pe_op op_sub (pe_call ET hr rfl GT.mg GT.kp bT .nil pass0 (pa_cons (pv 0) (pa_cons pe_int pa_nil))) pe_int))
      (C8.pss_cut (ps_if (pt_cmpR op_eq (pv 1) pe_int (nomark _)) (pss_one (ps_set (i := 2) scInt.nd rfl (Or.inl rfl) (pe_op op_sub (pe_call ET hr rfl GT.mg GT.kp bT .nil pass0 (pa_cons (pv 0) (pa_cons pe_int pa_nil))) pe_int))) pss_nil)
      (C8.pss_cut (ps_if (pt_cmpR op_eq (pv 1) pe_int (nomark _)) (pss_one (ps_set (i := 2) scInt.nd rfl (Or.inl rfl) (pe_op op_sub (pe_op op_add (pe_op op_mul (pv 2) (pe_op op_pow pe_int pe_int)) (pe_call ET hr rfl GT.mg GT.kp bT .nil pass0 (pa_cons (pv 0) (pa_cons pe_int pa_nil)))) pe_int))) pss_nil)
      (pss_one (ps_ret (pv 2)))))), ?_⟩
    refine ⟨_, rfl, st, cl, m, 4, rfl, S, by omega, by decide, by decide, fun plan H1 p0 p1 S1 k1 => ?_⟩
    refine ⟨_, rfl, st, cl, m + 1, 41, rfl, S1, by omega, by decide, by decide, fun a H2 a0 a1 S2 k2 => ?_⟩
    refine ⟨_, _, rfl, rfl, ?_⟩
    refine ⟨fun σ H' => ∃ n : Int, -20 ≤ n ∧ n ≤ 20 ∧ σ = [some (.ref st), some (.int plan), some (.int n)] ∧ Kb st cl H H' ∧ ((plan ≠ 0 ∧ StAt H' st cl (m + 2)) ∨ (plan = 0 ∧ StAt H' st cl (m + 3))), ?_, ?_⟩
    · refine ⟨_, rfl, rfl, _, rfl, ?_⟩
      refine ite2 (fun h => ?_) (fun h => ?_)
      · have hp : plan = 0 := V.int.inj (of_decide_eq_true h)
        refine ⟨_, rfl, st, cl, m + 2, 3, rfl, S2, by omega, by decide, by decide, fun b H3 b0 b1 S3 k3 => ?_⟩
        refine ⟨_, _, rfl, rfl, ?_⟩
        exact ⟨_, by show -20 ≤ b - 1; omega, by show b - 1 ≤ 20; omega, rfl, (k1.trans k2).trans k3, .inr ⟨hp, S3⟩⟩
      · have hp : plan ≠ 0 := fun e => h (decide_eq_true (congrArg V.int e))
        exact ⟨_, by show -20 ≤ a - 20; omega, by show a - 20 ≤ 20; omega, rfl, k1.trans k2, .inl ⟨hp, S2⟩⟩
    rintro σ3 H3 ⟨n, n0, n1, rfl, k3, hS⟩
    refine ⟨fun σ H' => ∃ n : Int, Bnd n ∧ σ = [some (.ref st), some (.int plan), some (.int n)] ∧ Kb st cl H H' ∧ StAt H' st cl (m + 3), ?_, ?_⟩
    · refine ⟨_, rfl, rfl, _, rfl, ?_⟩
      refine ite2 (fun h => ?_) (fun h => ?_)
      · have hp : plan = 3 := V.int.inj (of_decide_eq_true h)
        have S3 : StAt H3 st cl (m + 2) := by
          rcases hS with ⟨_, S⟩ | ⟨e, _⟩
          · exact S
          · omega
        refine ⟨_, rfl, _, _, rfl, rfl, ⟨by decide, by decide, by decide⟩, _, _, rfl, rfl, .inl ⟨by omega, by omega⟩, ?_⟩
        refine ⟨_, rfl, st, cl, m + 2, 2000001, rfl, S3, by omega, by decide, by decide, fun b H4 b0 b1 S4 k4 => ?_⟩
        refine ⟨_, _, rfl, rfl, _, _, rfl, rfl, ?_⟩
        refine ⟨_, ?_, rfl, k3.trans k4, S4⟩
        have e10 : ((10 : Int) ^ (27 : Int).toNat) = 1000000000000000000000000000 := by decide
        show (n * ((10 : Int) ^ (27 : Int).toNat) + b - 1000000).natAbs ≤ 21000000000000000000000000000
        rw [e10]
        omega
      · refine ⟨_, ?_, rfl, k3, ?_⟩
        · show n.natAbs ≤ 21000000000000000000000000000
          omega
        · rcases hS with ⟨_, S⟩ | ⟨_, S⟩
          · exact S.mono (by omega)
          · exact S
    · rintro σ4 H4 ⟨n, hb, rfl, k4, S4⟩
      refine ⟨_, rfl, ?_⟩
      exact k n H4 hb S4 k4
abbrev nParts : List Str := ["_law_state", "_law_parts_here", "_law_k", "_law_name_here"]
theorem scParts : FnScope nParts ["_law_state"] (defScope s_parts) := ⟨rfl, rfl, rfl, by decide +kernel, rfl, by decide +kernel, by decide +kernel⟩
theorem ok_parts {f fT fN fI : Addr} {fd dT dN dI : FuncData} (F : Fun K "_law_parts" "_law_parts" s_parts f fd) (mR : mg "range" = none)
    (ET : FnOk P w K mg base CX0 1 fT dT ["_law_state", "_law_limit"] spTake) (GT : Df K mg "_law_take" fT) (bT : Binds K dT ["_law_state", "_law_limit"] [])
    (EN : FnOk P w K mg base CX0 2 fN dN ["_law_state"] spName) (GN : Df K mg "_law_name" fN) (bN : Binds K dN ["_law_state"] [])
    (EI : FnOk P w K mg base CX0 2 fI dI ["_law_state"] spInt) (GI : Df K mg "_law_integer" fI) (bI : Binds K dI ["_law_state"] []) : FnOk P w K mg base CX0 3 f fd ["_law_state"] spParts := by
  refine F.ok scParts (fun vs H Q E h => ?_) (fun cdv A outer s H vs Q E hr h => ?_)
  · obtain ⟨st, cl, m, rfl, _⟩ := h
    rfl
  · obtain ⟨st, cl, m, rfl, S, hm, k⟩ := h
    have hu := hu_of hr
    have hr1 : Room 1 _ := hr.mono (by decide)
    refine ⟨_, pss_cons (ps_set (i := 1) scParts.nd rfl (Or.inl rfl) pe_dnewK)
      (pss_cons (ps_for PassesOwn.never rfl (pi_range1 rfl mR (pa_cons (pe_call ET hr1 rfl GT.mg GT.kp bT .nil pass0 (pa_cons (pv 0) (pa_cons pe_int pa_nil))) pa_nil)) (pg_name (i := 2) scParts.nd rfl (Or.inl rfl))
        (pss_cons (ps_set (i := 3) scParts.nd rfl (Or.inl rfl) (pe_ix ix_list (pe_lst (pa_cons pe_str (pa_cons pe_str (pa_cons pe_str (pa_cons pe_str (pa_cons pe_str (pa_cons pe_str pa_nil)))))))
            (pe_call ET hr1 rfl GT.mg GT.kp bT .nil pass0 (pa_cons (pv 0) (pa_cons pe_int pa_nil))) fun _ _ => rfl))
        (C8.pss_cut (ps_if (pt_cmpR op_eq (pe_call ET hr1 rfl GT.mg GT.kp bT .nil pass0 (pa_cons (pv 0) (pa_cons pe_int pa_nil))) pe_int (nomark _)) (pss_one (ps_set (i := 3) scParts.nd rfl (Or.inl rfl) (pe_call EN hr rfl GN.mg GN.kp bN .nil pass0 (pa_cons (pv 0) pa_nil)))) pss_nil)
        (pss_one (ps_dput hu (pv 1) (pv 3) (pe_call EI hr rfl GI.mg GI.kp bI .nil pass0 (pa_cons (pv 0) pa_nil)) rfl)))))
      (pss_one (ps_ret (pv 1)))), ?_⟩
    intro d hd
    obtain ⟨d1, d2⟩ := S.nst hd
    have S0 : StAt (upd H d (.dK [])) st cl m := S.upd d1 d2
    refine ⟨_, rfl, st, cl, m, 5, rfl, S0, by omega, by decide, by decide, fun size H1 z0 z1 S1 k1 => ?_⟩
    have k01 : Kb st cl H H1 := ((Kb.refl H).new hd).trans k1
    refine ⟨_, rfl, by omega, by omega, for_range (lo := 0) (n := size.toNat) (fun i σ H' => ∃ (kvs : Cf) (v w : Option V), σ = [some (.ref st), some (.ref d), v, w] ∧ H' d = some (.dK (dk kvs)) ∧ PartsOk kvs i ∧ StAt H' st cl (m + 1 + 20 * i) ∧ Kb st cl H H')
      ⟨[], none, none, rfl, k1 _ _ upd_same d1 d2, ⟨List.nodup_nil, Nat.le_refl _, (fun e he => by cases he), fun e he => by cases he⟩, S1, k01⟩ ?_ ?_⟩
    · rintro i σ H2 hi ⟨kvs, v, w', rfl, hd2, PO, S2, k2⟩
      have hi4 : i < 4 := by omega
      refine ⟨by show 6 ≤ sizeLine; decide, fun L hL => ?_⟩
      obtain ⟨L1, L2⟩ := S2.nst hL
      have hdL : d ≠ L := ne_of_none hd2 hL
      have hLn : H L = none := S.free S2 k2 hL
      refine ⟨_, rfl, st, cl, _, 6, rfl, S2.upd L1 L2, by omega, by decide, by decide, fun c H3 c0 c1 S3 k3 => ?_⟩
      obtain ⟨nm, hnm, hng⟩ : ∃ nm : Str, ([V.str "x", V.str "y", V.str "x1", V.str "ab", V.str "abc", V.str "z"] : List V)[c.toNat]? = some (V.str nm) ∧ good nm = true := by
        have hc : c.toNat < 6 := by omega
        generalize c.toNat = j at hc
        match j, hc with
        | 0, _ => exact ⟨_, rfl, by decide +kernel⟩
        | 1, _ => exact ⟨_, rfl, by decide +kernel⟩
        | 2, _ => exact ⟨_, rfl, by decide +kernel⟩
        | 3, _ => exact ⟨_, rfl, by decide +kernel⟩
        | 4, _ => exact ⟨_, rfl, by decide +kernel⟩
        | 5, _ => exact ⟨_, rfl, by decide +kernel⟩
      have hL3 : H3 L = _ := k3 L _ upd_same L1 L2
      have hd3 : H3 d = some (.dK (dk kvs)) := k3 d _ (by rw [upd_ne hdL]; exact hd2) d1 d2
      have k03 : Kb st cl H H3 := (k2.new hLn).trans k3
      refine ⟨L, _, _, V.str nm, rfl, rfl, SqL.of hL3, atI_in c0 hnm, ?_⟩
      refine ⟨fun σ H' => ∃ nm : Str, good nm = true ∧ (∃ v, σ = [some (.ref st), some (.ref d), v, some (.str nm)]) ∧ H' d = some (.dK (dk kvs)) ∧ StAt H' st cl (m + 1 + 20 * i + 10) ∧ Kb st cl H H', ?_, ?_⟩
      · refine ⟨_, rfl, st, cl, _, 4, rfl, S3, by omega, by decide, by decide, fun b H4 b0 b1 S4 k4 => ?_⟩
        refine ⟨rfl, _, rfl, ?_⟩
        have hd4 := k4 d _ hd3 d1 d2
        refine ite2 (fun _ => ?_) (fun _ => ?_)
        · refine ⟨_, rfl, st, cl, _, rfl, S4, by omega, fun z H5 hz S5 k5 => ?_⟩
          exact ⟨z, hz, ⟨_, rfl⟩, k5 d _ hd4 d1 d2, S5.mono (by omega), (k03.trans k4).trans k5⟩
        · exact ⟨nm, hng, ⟨_, rfl⟩, hd4, S4.mono (by omega), k03.trans k4⟩
      · rintro σ H4 ⟨nm, hg, ⟨v', rfl⟩, hd4, S4, k4⟩
        refine ⟨_, rfl, st, cl, _, rfl, S4, by omega, fun n H5 hb S5 k5 => ?_⟩
        have hd5 := k5 d _ hd4 d1 d2
        refine ⟨_, rfl, _, rfl, d, _, rfl, DPut.k (k := Sum.inr nm) hd5 (by rw [dk_len]; exact small1000 (by have := PO.len; omega)), ?_⟩
        refine ⟨putC kvs nm n, _, _, rfl, ?_, ⟨putC_nd PO.nd, ?_, ?_, ?_⟩, (S5.upd d1 d2).mono (by omega), (k4.trans k5).new hd⟩
        · rw [upd_same, dk_put]
        · have := putC_len kvs nm n
          have := PO.len
          omega
        · intro e he
          rcases putC_mem he with q | q
          · rw [q]; exact hg
          · exact PO.gd e q
        · intro e he
          rcases putC_mem he with q | q
          · rw [q]; exact hb
          · exact PO.bd e q
    · rintro σ H2 ⟨kvs, v, w', rfl, hd2, PO, S2, k2⟩
      refine ⟨_, rfl, ?_⟩
      exact k d kvs H2 hd hd2 ⟨PO.nd, by have := PO.len; omega, PO.gd, PO.bd⟩ (S2.mono (by omega)) k2
end
end OS
namespace OS
open PySem L2
theorem cut3 (j : Str) : TL.tl (cutS j none (some 3)) = (TL.tl j).take 3 := by
  show ((j.cps.toList.drop (HT.sIx j.length 0 none)).take (HT.sIx j.length j.length (some ((3 : Nat) : Int)) - HT.sIx j.length 0 none)) = _
  rw [HT.sIx_none, HT.sIx_nat, List.drop_zero, Nat.sub_zero]
  by_cases h : 3 ≤ j.length
  · rw [Nat.min_eq_left h]
  · rw [Nat.min_eq_right (by omega), List.take_of_length_le (by rw [← Str.len_list]; exact Nat.le_refl _), List.take_of_length_le (by have := Str.len_list j; show j.cps.toList.length ≤ 3; omega)]
theorem sw_cut (j y : Str) (hy : y.length = 3) : Txt.startswith j y = decide (cutS j none (some 3) = y) := by
  have hly : (TL.tl y).length = 3 := by rw [← hy]; exact (Str.len_list y).symm
  have hne : TL.tl y ≠ [] := fun e => by rw [e] at hly; cases hly
  have e1 : (cutS j none (some 3) = y) ↔ (TL.tl j).take 3 = TL.tl y := by
    rw [← cut3]
    exact ⟨fun e => by rw [e], fun e => Str.ext_list e⟩
  have e2 : Txt.startswith j y = true ↔ (TL.tl j).take 3 = TL.tl y := by
    show (decide (0 + y.length ≤ j.length) && PySem.Builtin.Str.subAt j y 0) = true ↔ _
    have := TL.at_iff (x := j) hne 0
    rw [List.drop_zero] at this
    rw [Bool.and_eq_true, decide_eq_true_eq]
    refine Iff.trans this ?_
    show (((TL.tl j).take (TL.tl y).length) == TL.tl y) = true ↔ _
    rw [hly, beq_iff_eq]
  by_cases h : cutS j none (some 3) = y
  · rw [decide_eq_true h]
    exact e2.mpr (e1.mp h)
  · rw [decide_eq_false h]
    cases q : Txt.startswith j y with
    | false => rfl
    | true => exact absurd (e1.mpr (e2.mp q)) h
theorem join_snoc : ∀ (l : List Str) (x : Str), Str.join (Str.ofString "") (l ++ [x]) = Str.join (Str.ofString "") l ++ x
  | [], x => (Str.empty_app x).symm
  | [y], x => by
    show y ++ (Str.ofString "") ++ x = y ++ x
    rw [Str.app_assoc, show (Str.ofString "") ++ x = x from Str.empty_app x]
  | y :: z :: r, x => by
    show y ++ (Str.ofString "") ++ Str.join (Str.ofString "") ((z :: r) ++ [x]) = (y ++ (Str.ofString "") ++ Str.join (Str.ofString "") (z :: r)) ++ x
    rw [join_snoc (z :: r) x, Str.app_assoc, Str.app_assoc, Str.app_assoc]
/-- the same as pieces, without the lone zero -/
def pieces2 (cs : Cf) (c : Int) : List Str := cs.map (fun e => term e.1 e.2) ++ (if c ≠ 0 then [sg c ++ dec (aint c)] else [])
theorem pieces2_eq {cs : Cf} {c : Int} (h : ¬ (cs = [] ∧ c = 0)) : pieces cs c = pieces2 cs c := by
  unfold pieces pieces2
  by_cases hc : c = 0
  · rw [if_neg (show ¬ c ≠ 0 from fun z => z hc), if_neg (by rintro (z | z); exact z hc; exact h ⟨z, hc⟩)]
  · rw [if_pos (show c ≠ 0 from hc), if_pos (Or.inl hc)]
theorem join_ne {l : List Str} {x : Str} (h : x ∈ l) (hx : 0 < x.length) : Str.join (Str.ofString "") l ≠ Str.ofString "" := by
  intro e
  have e2 : (Str.join (Str.ofString "") l).length = 0 := by rw [e]; decide +kernel
  rw [join_len] at e2
  have : ∀ (l : List Str), x ∈ l → x.length ≤ (l.map (·.length)).sum := by
    intro l
    induction l with
    | nil => intro h; cases h
    | cons y r ih =>
      intro h
      rw [List.map_cons, List.sum_cons]
      rcases List.mem_cons.mp h with q | q
      · rw [q]; omega
      · have := ih q; omega
  have := this l h
  omega
theorem pieces2_ne {cs : Cf} {c : Int} (h : ¬ (cs = [] ∧ c = 0)) : Str.join (Str.ofString "") (pieces2 cs c) ≠ Str.ofString "" := by
  by_cases hc : c = 0
  · cases cs with
    | nil => exact absurd ⟨rfl, hc⟩ h
    | cons e r =>
      refine join_ne (x := term e.1 e.2) ?_ ?_
      · unfold pieces2
        exact List.mem_append_left _ List.mem_cons_self
      · unfold term
        rw [len_app, sg_len]
        omega
  · refine join_ne (x := sg c ++ dec (aint c)) ?_ ?_
    · unfold pieces2
      rw [if_pos (show c ≠ 0 from hc)]
      exact List.mem_append_right _ List.mem_cons_self
    · rw [len_app, sg_len]
      omega
theorem ftext_zero : ftext [] 0 = Str.ofString "0" := by decide +kernel
theorem ftext_cut {cs : Cf} {c : Int} (h : ¬ (cs = [] ∧ c = 0)) {T : Str} (hT : T = Str.join (Str.ofString "") (pieces2 cs c)) :
    ftext cs c = if cutS T none (some 3) = Str.ofString " - " then (Str.ofString "-") ++ cutS T (some 3) none else cutS T (some 3) none := by
  have hj : joinedT cs c = T := by unfold joinedT; rw [pieces2_eq h, hT]
  unfold ftext
  rw [hj, sw_cut T _ (by decide +kernel)]
  by_cases q : cutS T none (some 3) = Str.ofString " - "
  · rw [decide_eq_true q, if_pos rfl, if_pos q]
  · rw [decide_eq_false q, if_neg Bool.false_ne_true, if_neg q]
    exact Str.empty_app _
def spText : Sp := fun vs H Q _ => ∃ (d : Addr) (kvs cs : Cf) (c : Int), vs = [.ref d, .int c] ∧ H d = some (.dK (dk kvs)) ∧ (kvs.map (·.1)).Nodup ∧ kvs.length < 64 ∧ (∀ e ∈ kvs, good e.1 = true) ∧ (∀ e ∈ kvs, aint e.2 < 10 ^ 64) ∧ aint c < 10 ^ 64 ∧ Can cs ∧ (∀ x, look cs x = look kvs x) ∧
  ∀ H', Same H H' → Q (.str (ftext cs c)) H'
theorem look_small {kvs : Cf} (h : ∀ e ∈ kvs, aint e.2 < 10 ^ 64) (k : Str) : aint (look kvs k) < 10 ^ 64 := by
  unfold look
  cases q : lookO kvs k with
  | none => decide
  | some v => exact h _ (lookO_mem q)
/-- the signs " + ", " - " as the law picks them -/
theorem sg_pick (n : Int) : ([V.str " + ", V.str " - "] : List V)[(if decide (n < 0) = true then (1 : Int) else 0).toNat]? = some (V.str (sg n)) := by
  unfold sg
  by_cases h : n < 0
  · rw [decide_eq_true h, if_pos rfl, if_pos h]
    rfl
  · rw [decide_eq_false h, if_neg Bool.false_ne_true, if_neg h]
    rfl
section
variable {P : Program} {w : World} {K : PySem.W.Frag} {mg : Str → Option Value} {base : Heap}
abbrev nText : List Str := ["_law_parts_here", "_law_constant", "_law_text_here", "_law_name_here", "_law_term"]
theorem scText : FnScope nText ["_law_parts_here", "_law_constant"] (defScope s_text) := ⟨rfl, rfl, rfl, by decide +kernel, rfl, by decide +kernel, by decide +kernel⟩
theorem ok_text {f : Addr} {fd : FuncData} (F : Fun K "_law_text" "_law_text" s_text f fd) (mS : mg "sorted" = none) (mA : mg "abs" = none) (mT : mg "str" = none) (mI : mg "int" = none) : FnOk P w K mg base CX0 1 f fd ["_law_parts_here", "_law_constant"] spText := by
  refine F.ok scText (fun vs H Q E h => ?_) (fun cdv A outer s H vs Q E hr h => ?_)
  · obtain ⟨d, kvs, cs, c, rfl, _⟩ := h
    rfl
  · obtain ⟨d, kvs, cs, c, rfl, hd, nd, hlen, hgd, hsm, hcs, can, hlk, k⟩ := h
    have hu := hu_of hr
    refine ⟨_, pss_cons (ps_set (i := 2) scText.nd rfl (Or.inl rfl) pe_str)
      (pss_cons (ps_for PassesOwn.never rfl (pi_list (pe_callB (call_sortedD rfl) (by rfl) mS (by decide +kernel) (pa_cons (pv 0) pa_nil))) (pg_name (i := 3) scText.nd rfl (Or.inl rfl))
        (pss_one (ps_if (pt_cmpR op_ne (pe_dget hu (pv 0) (pv 3) (fun _ _ => rfl)) pe_int (nomark _))
          (pss_cons (ps_set (i := 4) scText.nd rfl (Or.inl rfl) (pv 3))
          (C8.pss_cut (ps_if (pt_cmpR op_ne (pe_callB call_abs (by rfl) mA (by decide +kernel) (pa_cons (pe_dget hu (pv 0) (pv 3) (fun _ _ => rfl)) pa_nil)) pe_int (nomark _))
            (pss_one (ps_set (i := 4) scText.nd rfl (Or.inl rfl) (pe_op op_add_str (pe_op op_add_str (pe_callTy call_str_int (by rfl) mT (by decide +kernel) (pa_cons (pe_callB call_abs (by rfl) mA (by decide +kernel) (pa_cons (pe_dget hu (pv 0) (pv 3) (fun _ _ => rfl)) pa_nil)) pa_nil)) pe_str) (pv 3)))) pss_nil)
          (pss_one (ps_set (i := 2) scText.nd rfl (Or.inl rfl) (pe_op op_add_str (pe_op op_add_str (pv 2) (pe_ix ix_list (pe_lst (pa_cons pe_str (pa_cons pe_str pa_nil)))
            (pe_callTy call_int1 (by rfl) mI (by decide +kernel) (pa_cons (pe_cmpR op_lt (pe_dget hu (pv 0) (pv 3) (fun _ _ => rfl)) pe_int (nomark _)) pa_nil)) fun _ _ => rfl)) (pv 4)))))) pss_nil)))
      (C8.pss_cut (ps_if (pt_cmpR op_ne (pv 1) pe_int (nomark _)) (pss_one (ps_set (i := 2) scText.nd rfl (Or.inl rfl) (pe_op op_add_str (pe_op op_add_str (pv 2) (pe_ix ix_list (pe_lst (pa_cons pe_str (pa_cons pe_str pa_nil)))
            (pe_callTy call_int1 (by rfl) mI (by decide +kernel) (pa_cons (pe_cmpR op_lt (pv 1) pe_int (nomark _)) pa_nil)) fun _ _ => rfl))
            (pe_callTy call_str_int (by rfl) mT (by decide +kernel) (pa_cons (pe_callB call_abs (by rfl) mA (by decide +kernel) (pa_cons (pv 1) pa_nil)) pa_nil))))) pss_nil)
      (pss_cons (ps_if (pt_cmpR op_eq (pv 2) pe_str (nomark _)) (pss_one (ps_ret pe_str)) pss_nil)
      (pss_cons (ps_if (pt_cmpR op_eq (pe_slice sl_str (pv 2) po_none (po_some pe_int)) pe_str (nomark _)) (pss_one (ps_ret (pe_op op_add_str pe_str (pe_slice sl_str (pv 2) (po_some pe_int) po_none)))) pss_nil)
      (pss_one (ps_ret (pe_slice sl_str (pv 2) (po_some pe_int) po_none))))))), ?_⟩
    refine ⟨_, rfl, d, dk kvs, kvs.map (·.1), rfl, Rd.of hd, ?_, by rw [List.length_map]; exact hlen, fun ys l perm srt hl => ?_⟩
    · unfold dk
      rw [List.map_map, List.map_map]
      rfl
    have ynd : ys.Nodup := perm.nodup_iff.mpr nd
    have yasc : Asc ys := sorted_asc srt ynd
    have ylen : ys.length < 64 := by rw [perm.length_eq, List.length_map]; exact hlen
    have s1 : Same H (L2.upd H l (.lst (ys.map V.str))) := sameUpd (Same.refl _) hl
    obtain ⟨H1, hH1⟩ : ∃ H1, H1 = L2.upd H l (.lst (ys.map V.str)) := ⟨_, rfl⟩
    rw [← hH1] at s1
    have hl1 : H1 l = some (.lst (ys.map V.str)) := by rw [hH1]; exact upd_same
    rw [← hH1]
    have hgs : ∀ q ∈ ys, q.length ≤ 6 := by
      intro q hq
      obtain ⟨e', he', e⟩ := List.mem_map.mp (perm.mem_iff.mp hq)
      rw [← e]
      exact (good_len (hgd e' he')).1
    have hpk : cs = pick (look kvs) ys := can.unique (pick_can yasc) fun x => by
      rw [hlk, pick_look yasc]
      intro q hq
      refine perm.mem_iff.mpr ?_
      cases Classical.em (q ∈ kvs.map (·.1)) with
      | inl z => exact z
      | inr z => exact absurd (look_none z) hq
    have tlen : ∀ i, (Str.join (Str.ofString "") ((pick (look kvs) (ys.take i)).map fun e => term e.1 e.2)).length ≤ 6400 := by
      intro i
      rw [join_len]
      have h1 : ((pick (look kvs) (ys.take i)).map fun e => term e.1 e.2).length ≤ 64 := by
        rw [List.length_map]
        unfold pick
        rw [List.length_map]
        exact Nat.le_trans (List.length_filter_le _ _) (by rw [List.length_take]; omega)
      have h2 := sum_le ((pick (look kvs) (ys.take i)).map fun e => term e.1 e.2) (fun y hy => by
        obtain ⟨e, he, rfl⟩ := List.mem_map.mp hy
        unfold pick at he
        obtain ⟨q, hq, rfl⟩ := List.mem_map.mp he
        exact term_len (by have := hgs q (List.mem_of_mem_take (List.mem_filter.mp hq).1); show q.length ≤ 10; omega) (look_small hsm q))
      omega
    refine ⟨l, rfl, ⟨_, SqL.of hl1⟩, ?_⟩
    refine for_list (K := K) (a := l) (xs := ys.map V.str) (fun i σ H' => (∃ v w, σ = [some (.ref d), some (.int c), some (.str (Str.join (Str.ofString "") ((pick (look kvs) (ys.take i)).map fun e => term e.1 e.2))), v, w]) ∧ Same H1 H')
      ⟨⟨none, none, rfl⟩, Same.refl _⟩ (fun i σ H' _ h => SqL.of (h.2 _ _ hl1)) ?_ ?_
    · rintro i x σ H2 hx ⟨⟨v, w', rfl⟩, s2⟩
      rw [List.getElem?_map] at hx
      cases hyi : ys[i]? with
      | none => rw [hyi] at hx; cases hx
      | some y =>
        rw [hyi] at hx
        obtain rfl : V.str y = x := Option.some.inj hx
        have hmem : y ∈ ys := List.mem_of_getElem? hyi
        have hd2 : H2 d = some (.dK (dk kvs)) := s2 _ _ (s1 _ _ hd)
        have hlo : lookO kvs y = some (look kvs y) := by
          have : y ∈ kvs.map (·.1) := perm.mem_iff.mp hmem
          cases q : lookO kvs y with
          | none => exact absurd this (lookO_none.mp q)
          | some z => unfold look; rw [q]; rfl
        have hg : ∀ H', Same H2 H' → DGet H' d (V.str y) (some (V.int (look kvs y))) := by
          intro H' s'
          have hv : valV (dk kvs) (Sum.inr y : Key) = some (V.int (look kvs y)) := by rw [valV_dk, hlo]; rfl
          rw [← hv]
          exact DGet.k (k := Sum.inr y) (s' _ _ hd2)
        have htk : ys.take (i + 1) = ys.take i ++ [y] := by rw [List.take_succ, hyi]; rfl
        have hyl := hgs y hmem
        have hsy := look_small hsm y
        have ha0 := aint0 (look kvs y)
        refine ⟨_, rfl, _, rfl, d, _, rfl, hg _ (Same.refl _), rfl, _, rfl, ?_⟩
        by_cases hz : look kvs y = 0
        · rw [show (!decide (V.int (look kvs y) = V.int 0)) = false by rw [hz]; simp]
          refine iteF ?_
          refine ⟨⟨some (V.str y), w', ?_⟩, s2⟩
          rw [htk, pick_snoc, if_neg (fun z => z hz)]
          rfl
        · rw [show (!decide (V.int (look kvs y) = V.int 0)) = true by rw [decide_eq_false (fun z => hz (V.int.inj z))]; rfl]
          refine iteT ?_
          refine ⟨_, rfl, ?_⟩
          have hnl := term_len (z := y) (n := look kvs y) (by omega) hsy
          have hterm : term y (look kvs y) = sg (look kvs y) ++ (if aint (look kvs y) = 1 then y else dec (aint (look kvs y)) ++ (Str.ofString "*") ++ y) := rfl
          refine ⟨fun σ H' => H' = H2 ∧ ∃ t, t = (if aint (look kvs y) = 1 then y else dec (aint (look kvs y)) ++ (Str.ofString "*") ++ y) ∧ σ = [some (.ref d), some (.int c), some (.str (Str.join (Str.ofString "") ((pick (look kvs) (ys.take i)).map fun e => term e.1 e.2))), some (.str y), some (.str t)], ?_, ?_⟩
          · refine ⟨_, rfl, _, rfl, d, _, rfl, hg _ (Same.refl _), _, rfl, rfl, _, rfl, ?_⟩
            show if (!decide (V.int (aint (look kvs y)) = V.int 1)) = true then _ else _
            by_cases h1 : aint (look kvs y) = 1
            · rw [show (!decide (V.int (aint (look kvs y)) = V.int 1)) = false by rw [h1]; simp]
              refine iteF ?_
              exact ⟨rfl, _, (if_pos h1).symm, rfl⟩
            · rw [show (!decide (V.int (aint (look kvs y)) = V.int 1)) = true by rw [decide_eq_false (fun z => h1 (V.int.inj z))]; rfl]
              refine iteT ?_
              have hdl := dec_len ha0 hsy
              have hst : (Str.ofString "*").length = 1 := by decide +kernel
              refine ⟨_, rfl, _, rfl, d, _, rfl, hg _ (Same.refl _), _, rfl, _, rfl, log2_lt ?_, _, _, rfl, rfl, ?_, _, rfl, _, _, rfl, rfl, ?_, rfl, _, (if_neg h1).symm, rfl⟩
              · show (aint (look kvs y)).natAbs < 10 ^ 64
                omega
              · show (dec (aint (look kvs y))).length + (Str.ofString "*").length ≤ sizeLine
                exact Nat.le_of_lt (small1000 (by omega))
              · show (dec (aint (look kvs y)) ++ (Str.ofString "*")).length + y.length ≤ sizeLine
                rw [len_app]
                exact Nat.le_of_lt (small1000 (by omega))
          · rintro σ H3 ⟨rfl, t, ht, rfl⟩
            refine ⟨_, rfl, by show 2 ≤ sizeLine; decide, fun L hL => ?_⟩
            have sL : Same H3 (L2.upd H3 L (.lst [V.str " + ", V.str " - "])) := sameUpd (Same.refl _) hL
            refine ⟨_, rfl, _, rfl, d, _, rfl, hg _ sL, _, _, rfl, rfl, .inr ⟨_, rfl, ?_⟩⟩
            refine ⟨L, _, _, V.str (sg (look kvs y)), rfl, rfl, SqL.of upd_same, atI_in (by split <;> decide) (sg_pick (look kvs y)), ?_⟩
            have htl := tlen i
            have hsg := sg_len (look kvs y)
            have htt : (sg (look kvs y)).length + t.length ≤ 100 := by rw [← len_app, ht, ← hterm]; exact hnl
            refine ⟨_, _, rfl, rfl, Nat.le_trans (by omega : _ ≤ 6600) (by decide), _, rfl, _, _, rfl, rfl, ?_, ⟨some (V.str y), some (V.str t), ?_⟩, ?_⟩
            · rw [len_app]
              exact Nat.le_trans (by omega : _ ≤ 6600) (by decide)
            · rw [htk, pick_snoc, if_pos hz, List.map_append]
              show _ = ([some (V.ref d), some (V.int c), some (V.str (Str.join (Str.ofString "") ((pick (look kvs) (ys.take i)).map (fun e => term e.1 e.2) ++ [term y (look kvs y)]))), some (V.str y), some (V.str t)] : List (Option V))
              rw [join_snoc, hterm, ← ht, ← Str.app_assoc]
              rfl
            · exact s2.trans sL
    · rintro σ H2 ⟨⟨v, w', rfl⟩, s2⟩
      rw [List.length_map, List.take_length, ← hpk]
      have tl6 := tlen ys.length
      rw [List.take_length, ← hpk] at tl6
      refine ⟨fun σ H' => Same H H' ∧ σ = [some (.ref d), some (.int c), some (.str (Str.join (Str.ofString "") (pieces2 cs c))), v, w'], ?_, ?_⟩
      · refine ⟨_, rfl, rfl, _, rfl, ?_⟩
        by_cases hc : c = 0
        · rw [show (!decide (V.int c = V.int 0)) = false by rw [hc]; simp]
          refine iteF ?_
          refine ⟨s1.trans s2, ?_⟩
          unfold pieces2
          rw [if_neg (show ¬ c ≠ 0 from fun z => z hc), List.append_nil]
        · rw [show (!decide (V.int c = V.int 0)) = true by rw [decide_eq_false (fun z => hc (V.int.inj z))]; rfl]
          refine iteT ?_
          refine ⟨_, rfl, by show 2 ≤ sizeLine; decide, fun L hL => ?_⟩
          have sL : Same H2 (L2.upd H2 L (.lst [V.str " + ", V.str " - "])) := sameUpd (Same.refl _) hL
          refine ⟨_, rfl, _, _, rfl, rfl, .inr ⟨_, rfl, ?_⟩⟩
          refine ⟨L, _, _, V.str (sg c), rfl, rfl, SqL.of upd_same, atI_in (by split <;> decide) (sg_pick c), ?_⟩
          have hsg := sg_len c
          have hdl := dec_len (aint0 c) hcs
          refine ⟨_, _, rfl, rfl, Nat.le_trans (by omega : _ ≤ 6600) (by decide), _, rfl, _, rfl, _, rfl, log2_lt ?_, _, _, rfl, rfl, ?_, (s1.trans s2).trans sL, ?_⟩
          · show (aint c).natAbs < 10 ^ 64
            have := aint0 c
            omega
          · show (Str.join (Str.ofString "") (cs.map fun e => term e.1 e.2) ++ sg c).length + (dec (aint c)).length ≤ sizeLine
            rw [len_app]
            exact Nat.le_trans (by omega : _ ≤ 6600) (by decide)
          · unfold pieces2
            rw [if_pos (show c ≠ 0 from hc), join_snoc, ← Str.app_assoc]
            rfl
      · rintro σ H3 ⟨s3, rfl⟩
        obtain ⟨T, hT⟩ : ∃ T, T = Str.join (Str.ofString "") (pieces2 cs c) := ⟨_, rfl⟩
        rw [← hT]
        have hTl : T.length ≤ 6500 := by
          rw [hT]
          unfold pieces2
          by_cases hc : c = 0
          · rw [if_neg (show ¬ c ≠ 0 from fun z => z hc), List.append_nil]
            omega
          · rw [if_pos (show c ≠ 0 from hc), join_snoc, len_app, len_app]
            have hsg := sg_len c
            have hdl := dec_len (aint0 c) hcs
            omega
        have hTs : T.length ≤ sizeLine := Nat.le_trans hTl (by decide)
        refine ⟨_, rfl, rfl, _, rfl, ?_⟩
        by_cases h0 : cs = [] ∧ c = 0
        · have e : T = Str.ofString "" := by rw [hT, h0.1, h0.2]; rfl
          rw [decide_eq_true (congrArg V.str e)]
          refine iteT ?_
          have := k H3 s3
          rw [h0.1, h0.2, ftext_zero] at this
          exact this
        · have e : T ≠ Str.ofString "" := by rw [hT]; exact pieces2_ne h0
          rw [decide_eq_false (fun z => e (V.str.inj z))]
          refine iteF ?_
          have fin := k H3 s3
          rw [ftext_cut h0 hT] at fin
          refine ⟨_, rfl, _, rfl, _, rfl, hTs, rfl, _, rfl, ?_⟩
          have hcl : (cutS T (some 3) none).length ≤ 6500 := by
            rw [Str.len_list]
            show (((T).cps.toList.drop _).take _).length ≤ 6500
            rw [List.length_take, List.length_drop, ← Str.len_list]
            omega
          by_cases q : cutS T none (some 3) = Str.ofString " - "
          · rw [if_pos q] at fin
            rw [decide_eq_true (congrArg V.str q)]
            refine iteT ?_
            refine ⟨_, rfl, _, rfl, _, rfl, hTs, _, _, rfl, rfl, ?_, fin⟩
            show (Str.ofString "-").length + _ ≤ _
            have : (Str.ofString "-").length = 1 := by decide +kernel
            exact Nat.le_trans (by omega : _ ≤ 6600) (by decide)
          · rw [if_neg q] at fin
            rw [decide_eq_false (fun z => q (V.str.inj z))]
            refine iteF ?_
            exact ⟨_, rfl, _, rfl, _, rfl, hTs, fin⟩
end
end OS
namespace OS
open PySem L2
def spLaw (K : PySem.W.Frag) : Sp := fun vs H Q _ => ∃ (a : Addr) (ns : List Int), vs = [.ref a] ∧ SqL K H a (ns.map V.int) ∧ ns.length ≤ 63 ∧ ∀ H', Q (.bl true) H'
def negC (cs : Cf) : Cf := cs.map fun e => (e.1, - e.2)
theorem negC_names (cs : Cf) : (negC cs).map (·.1) = cs.map (·.1) := by
  unfold negC
  rw [List.map_map]
  rfl
theorem negC_look : ∀ (cs : Cf) (x : Str), look (negC cs) x = - look cs x
  | [], x => by simp [look, lookO, negC]
  | e :: r, x => by
    have ih := negC_look r x
    unfold look at ih ⊢
    show (lookO ((e.1, - e.2) :: negC r) x).getD 0 = _
    rw [lookO_cons, lookO_cons]
    by_cases h : e.1 = x
    · rw [if_pos h, if_pos h]; rfl
    · rw [if_neg h, if_neg h]; exact ih
theorem Bnd.small {n : Int} (h : Bnd n) : aint n < 10 ^ 64 := by
  unfold Bnd at h
  have : aint n ≤ n.natAbs := by unfold aint; split <;> omega
  omega
theorem Can.small {cs kvs : Cf} (can : Can cs) (h : ∀ x, look cs x = look kvs x) (b : ∀ e ∈ kvs, Bnd e.2) : ∀ e ∈ cs, aint e.2 < 10 ^ 64 := by
  intro e he
  have e1 : look cs e.1 = e.2 := by
    unfold look
    rw [lookO_of_mem can.nd (k := e.1) (v := e.2) he]
    rfl
  rw [← e1, h]
  exact look_small (fun e' h' => (b e' h').small) e.1
section
variable {P : Program} {w : World} {K : PySem.W.Frag} {mg : Str → Option Value} {base : Heap}
abbrev nLaw : List Str := ["_law_script", "_law_state", "_law_parts_here", "_law_constant", "_law_opposite", "_law_name_here", "_law_form"]
theorem scLaw : FnScope nLaw ["_law_script"] (defScope sLaw) := ⟨rfl, rfl, rfl, by decide +kernel, rfl, by decide +kernel, by decide +kernel⟩
theorem ok_law {f fS fT fP fI fX fF fG fN C : Addr} {fd dS dT dP dI dX dF dG dN : FuncData} (F : Fun K "law" "law" sLaw f fd) (mD : mg "dict" = none) (mS : mg "str" = none) (mC : mg "Form" = some (.ref C))
    (ES : FnOk P w K mg base CX0 1 fS dS ["_law_script"] (spStart K)) (GS : Df K mg "_law_start" fS) (bS : Binds K dS ["_law_script"] [])
    (ET : FnOk P w K mg base CX0 1 fT dT ["_law_state", "_law_limit"] spTake) (GT : Df K mg "_law_take" fT) (bT : Binds K dT ["_law_state", "_law_limit"] [])
    (EP : FnOk P w K mg base CX0 3 fP dP ["_law_state"] spParts) (GP : Df K mg "_law_parts" fP) (bP : Binds K dP ["_law_state"] [])
    (EI : FnOk P w K mg base CX0 2 fI dI ["_law_state"] spInt) (GI : Df K mg "_law_integer" fI) (bI : Binds K dI ["_law_state"] [])
    (EX : FnOk P w K mg base CX0 1 fX dX ["_law_parts_here", "_law_constant"] spText) (GX : Df K mg "_law_text" fX) (bX : Binds K dX ["_law_parts_here", "_law_constant"] [])
    (M : Mk K C fF) (EF : FnOk P w K mg base CX0 2 fF dF ["self", "coefficients", "constant"] (spInit C)) (bF : Binds K dF ["self", "coefficients", "constant"] [])
    (EG : FnOk P w K mg base CX0 3 fG dG ["self"] (spStr C)) (OG : Own K C "__str__" fG) (bG : Binds K dG ["self"] [])
    (EN : FnOk P w K mg base CX0 5 fN dN ["self"] (spNeg C)) (ON : Own K C "__neg__" fN) (bN : Binds K dN ["self"] []) :
    FnOk P w K mg base CX0 6 f fd ["_law_script"] (spLaw K) := by
  refine F.ok scLaw (fun vs H Q E h => ?_) (fun cdv A outer s H vs Q E hr h => ?_)
  · obtain ⟨a, ns, rfl, _⟩ := h
    rfl
  · obtain ⟨a, ns, rfl, hS, hn, k⟩ := h
    have hu := hu_of hr
    have hr1 : Room 1 _ := hr.mono (by decide)
    have hr2 : Room 2 _ := hr.mono (by decide)
    have hr3 : Room 3 _ := hr.mono (by decide)
    have hr5 : Room 5 _ := hr
    refine ⟨_, pss_cons (ps_set (i := 1) scLaw.nd rfl (Or.inl rfl) (pe_call ES hr1 rfl GS.mg GS.kp bS .nil pass0 (pa_cons (pv 0) pa_nil)))
      (pss_cons (ps_set (i := 2) scLaw.nd rfl (Or.inl rfl) (pe_call EP hr3 rfl GP.mg GP.kp bP .nil pass0 (pa_cons (pv 1) pa_nil)))
      (pss_cons (ps_set (i := 3) scLaw.nd rfl (Or.inl rfl) (pe_call EI hr2 rfl GI.mg GI.kp bI .nil pass0 (pa_cons (pv 1) pa_nil)))
      (C8.pss_cut (ps_if (pt_cmpR op_eq (pe_call ET hr1 rfl GT.mg GT.kp bT .nil pass0 (pa_cons (pv 1) (pa_cons pe_int pa_nil))) pe_int (nomark _)) (pss_one (ps_set (i := 3) scLaw.nd rfl (Or.inl rfl) pe_int)) pss_nil)
      (pss_cons (ps_set (i := 4) scLaw.nd rfl (Or.inl rfl) pe_dnewK)
      (pss_cons (ps_lock (ps_for PassesOwn.never rfl (pi_keys (pv 2)) (pg_name (i := 5) scLaw.nd rfl (Or.inl rfl)) (pss_one (ps_dput hu (pv 4) (pv 5) (pe_un un_neg (pe_dget hu (pv 2) (pv 5) (fun _ _ => rfl))) rfl))))
      (pss_cons (ps_set (i := 6) scLaw.nd rfl (Or.inl rfl) (pe_make M EF hr3 rfl mC bF .nil pass0 (pa_cons (pe_callTy call_dictD (by rfl) mD (by decide +kernel) (pa_cons (pv 2) pa_nil)) (pa_cons (pv 3) pa_nil))))
      (pss_cons (ps_if (PW.pt (pw_or (pt_cmpR op_ne (pe_callTy (call_strO EG OG hr5 bG pass0) (by rfl) mS (by decide +kernel) (pa_cons (pv 6) pa_nil)) (pe_call EX hr1 rfl GX.mg GX.kp bX .nil pass0 (pa_cons (pv 2) (pa_cons (pv 3) pa_nil))) (nomark _))
          (pw_or1 (pt_cmpR op_ne (pe_callTy (call_strO EG OG hr5 bG pass0) (by rfl) mS (by decide +kernel) (pa_cons (pv 6) pa_nil)) (pe_call EX hr1 rfl GX.mg GX.kp bX .nil pass0 (pa_cons (pv 2) (pa_cons (pv 3) pa_nil))) (nomark _))))) (pss_one (ps_ret pe_bl)) pss_nil)
      (pss_one (ps_ret (pe_cmpR op_eq (pe_callTy (call_strO EG OG hr5 bG pass0) (by rfl) mS (by decide +kernel) (pa_cons (pe_un (un_negO EN ON hr5 bN pass0) (pv 6)) pa_nil)) (pe_call EX hr1 rfl GX.mg GX.kp bX .nil pass0 (pa_cons (pv 4) (pa_cons (pe_un un_neg (pv 3)) pa_nil))) (nomark _))))))))))), ?_⟩
    refine ⟨_, rfl, a, ns, rfl, hS, hn, fun st cl H1 S1 _ _ _ => ?_⟩
    refine ⟨_, rfl, st, cl, 0, rfl, S1, by decide, fun d kvs H2 nd hd2 PO S2 k2 => ?_⟩
    obtain ⟨d1, d2⟩ : d ≠ st ∧ d ≠ cl := S1.nst nd
    refine ⟨_, rfl, st, cl, _, rfl, S2, by decide, fun c H3 hb S3 k3 => ?_⟩
    have hd3 := k3 d _ hd2 d1 d2
    refine ⟨fun σ H' => ∃ c : Int, Bnd c ∧ H' d = some (.dK (dk kvs)) ∧ σ = [some (.ref a), some (.ref st), some (.ref d), some (.int c), none, none, none], ?_, ?_⟩
    · refine ⟨_, rfl, st, cl, _, 3, rfl, S3, by decide, by decide, by decide, fun b H4 _ _ S4 k4 => ?_⟩
      have hd4 := k4 d _ hd3 d1 d2
      refine ⟨rfl, _, rfl, ?_⟩
      refine ite2 (fun _ => ?_) (fun _ => ?_)
      · exact ⟨0, (by unfold Bnd; decide), hd4, rfl⟩
      · exact ⟨c, hb, hd4, rfl⟩
    rintro σ4 H4 ⟨c, hb, hd4, rfl⟩
    intro o no
    have ndo : d ≠ o := ne_of_none hd4 no
    have hd5 : (L2.upd H4 o (.dK [])) d = some (.dK (dk kvs)) := by rw [upd_ne ndo]; exact hd4
    refine ⟨d, _, hd5, trivial, fun od => ?_⟩
    refine ⟨_, rfl, d, od, rfl, .inl ⟨_, upd_same, ?_⟩⟩
    refine for_it walk_keys (fun i σ H' => (∃ v, σ = [some (.ref a), some (.ref st), some (.ref d), some (.int c), some (.ref o), v, none]) ∧ H' d = some (.frz od (.dK (dk kvs))) ∧ H' o = some (.dK (dk (negC (kvs.take i)))))
      ⟨⟨none, rfl⟩, upd_same, by rw [upd_ne ndo.symm, upd_same]; rfl⟩ (fun i σ H' _ h => h.2.1) ?_ ?_
    · rintro i x σ H5 H6 hi ⟨⟨v, rfl⟩, e1, e2⟩ ⟨rfl, k', v', hkv, rfl⟩
      rw [dk_len] at hi
      have he : (dk kvs)[i]? = some (Sum.inr (kvs[i]).1, V.int (kvs[i]).2) := by
        unfold dk
        rw [List.getElem?_map, List.getElem?_eq_getElem hi]
        rfl
      rw [he] at hkv
      cases hkv
      have hm : kvs[i] ∈ kvs := List.getElem_mem hi
      have htk : kvs.take (i + 1) = kvs.take i ++ [kvs[i]] := by rw [List.take_succ, List.getElem?_eq_getElem hi]; rfl
      have hnew : (kvs[i]).1 ∉ (negC (kvs.take i)).map (·.1) := by
        rw [negC_names]
        intro m
        have nd2 : ((kvs.take (i + 1)).map (·.1)).Nodup := List.Sublist.nodup (List.Sublist.map _ (List.take_sublist _ _)) PO.nd
        rw [htk, List.map_append] at nd2
        exact (List.nodup_append.mp nd2).2.2 _ m _ (List.mem_singleton.mpr rfl) rfl
      have hg : DGet H6 d (V.str (kvs[i]).1) (some (V.int (kvs[i]).2)) := by
        have hv : valV (dk kvs) (Sum.inr (kvs[i]).1 : Key) = some (V.int (kvs[i]).2) := by rw [valV_dk, lookO_of_mem PO.nd (k := (kvs[i]).1) (v := (kvs[i]).2) hm]; rfl
        rw [← hv]
        exact .inl ⟨dk kvs, Sum.inr (kvs[i]).1, .inr ⟨od, e1⟩, rfl, rfl⟩
      refine ⟨_, rfl, _, rfl, d, _, rfl, hg, _, rfl, _, rfl, _, rfl, o, _, rfl, DPut.k (k := Sum.inr (kvs[i]).1) e2 ?_, ⟨_, rfl⟩, ?_, ?_⟩
      · rw [dk_len]
        unfold negC
        rw [List.length_map, List.length_take]
        exact small1000 (by have := PO.len; omega)
      · rw [upd_ne ndo]
        exact e1
      · rw [upd_same, dk_put_new hnew, htk]
        unfold negC
        rw [List.map_append]
        rfl
    · rintro σ H5 ⟨⟨v, rfl⟩, e1, e2⟩
      rw [dk_len, List.take_length] at e2
      refine ⟨e1, ?_⟩
      obtain ⟨H6, hH6⟩ : ∃ H6, H6 = L2.upd H5 d (.dK (dk kvs)) := ⟨_, rfl⟩
      rw [← hH6]
      have hd6 : H6 d = some (.dK (dk kvs)) := by rw [hH6, upd_same]
      have ho6 : H6 o = some (.dK (dk (negC kvs))) := by rw [hH6, upd_ne ndo.symm]; exact e2
      -- the form
      refine ⟨_, rfl, d, dk kvs, rfl, Rd.of hd6, fun d' nd' => ?_⟩
      refine ⟨_, rfl, ?_⟩
      intro q qd nq nqd nqq
      have sq : Same (L2.upd H6 d' (.dK (dk kvs))) (L2.upd (L2.upd (L2.upd H6 d' (.dK (dk kvs))) qd (.own q)) q (.ins C qd [])) := sameUpd (sameUpd (Same.refl _) nqd) nq
      have klen : kvs.length < 64 := by have := PO.len; omega
      refine ⟨q, qd, d', kvs, c, rfl, upd_same, sq _ _ upd_same, PO.nd, klen, PO.gd, fun cs H7 hlk FA s7 => ⟨rfl, ?_⟩⟩
      have s67 : Same H6 H7 := fun b u e => s7 b u (sq _ _ (by rw [upd_ne (ne_of_none e nd')]; exact e)) (fun z => by
        have : (L2.upd H6 d' (.dK (dk kvs))) b = some u := by rw [upd_ne (ne_of_none e nd')]; exact e
        rw [z, nq] at this
        cases this)
      have hd7 := s67 _ _ hd6
      have ho7 := s67 _ _ ho6
      have csm : Small cs c := ⟨FA.can.small hlk PO.bd, hb.small⟩
      have ksm : ∀ e ∈ kvs, aint e.2 < 10 ^ 64 := fun e he => (PO.bd e he).small
      obtain ⟨⟨dd, dx, hq7, hdd7⟩, _, _, _⟩ := id FA
      refine ⟨_, rfl, q, dx, _, rfl, hq7, q, cs, c, rfl, FA, csm, fun H8 s8 => ⟨⟨_, rfl⟩, ?_⟩⟩
      refine ⟨_, rfl, _, rfl, d, kvs, cs, c, rfl, s8 _ _ hd7, PO.nd, klen, PO.gd, ksm, hb.small, FA.can, hlk, fun H9 s9 => ?_⟩
      refine ⟨rfl, _, rfl, ?_⟩
      rw [show (!decide (V.str (ftext cs c) = V.str (ftext cs c))) = false by simp]
      refine iteF ?_
      have FA9 := FA.same (s8.trans s9)
      have hd9 := (s8.trans s9) _ _ hd7
      have hq9 := (s8.trans s9) _ _ hq7
      refine ⟨_, rfl, q, dx, _, rfl, hq9, q, cs, c, rfl, FA9, csm, fun H10 s10 => ⟨⟨_, rfl⟩, ?_⟩⟩
      refine ⟨_, rfl, _, rfl, d, kvs, cs, c, rfl, s10 _ _ hd9, PO.nd, klen, PO.gd, ksm, hb.small, FA.can, hlk, fun H11 s11 => ?_⟩
      refine ⟨rfl, _, rfl, ?_⟩
      rw [show (!decide (V.str (ftext cs c) = V.str (ftext cs c))) = false by simp]
      refine iteF ?_
      have FA11 := FA9.same (s10.trans s11)
      have hq11 := (s10.trans s11) _ _ hq9
      have ho11 := (s10.trans s11) _ _ ((s8.trans s9) _ _ ho7)
      refine ⟨_, rfl, q, dx, _, rfl, hq11, q, cs, c, rfl, FA11, fun r ds H12 hneg FA12 s12 _ => ?_⟩
      obtain ⟨⟨dr, dxr, hr12, _⟩, _, _, _⟩ := id FA12
      have nbd : ∀ e ∈ negC kvs, Bnd e.2 := by
        intro e he
        obtain ⟨e', he', rfl⟩ := List.mem_map.mp he
        have := PO.bd e' he'
        unfold Bnd at this ⊢
        show (- e'.2).natAbs ≤ _
        omega
      have hbn : Bnd (-c) := by unfold Bnd at hb ⊢; omega
      have hlk2 : ∀ x, look ds x = look (negC kvs) x := fun x => by rw [hneg, hlk, negC_look]
      have dsm : Small ds (-c) := ⟨FA12.can.small hlk2 nbd, hbn.small⟩
      refine ⟨r, dxr, _, rfl, hr12, r, ds, -c, rfl, FA12, dsm, fun H13 s13 => ⟨⟨_, rfl⟩, ?_⟩⟩
      refine ⟨_, rfl, _, rfl, _, rfl, o, negC kvs, ds, -c, rfl, s13 _ _ (s12 _ _ ho11), (by rw [negC_names]; exact PO.nd), (by unfold negC; rw [List.length_map]; exact klen), ?_, fun e he => (nbd e he).small, hbn.small, FA12.can, hlk2, fun H14 s14 => ?_⟩
      · intro e he
        obtain ⟨e', he', rfl⟩ := List.mem_map.mp he
        exact PO.gd e' he'
      refine ⟨rfl, ?_⟩
      rw [decide_eq_true rfl]
      exact k H14
end
end OS
namespace OS
open PySem L2
theorem all_mk {l : PySem.W.OpenLaw} {w : World} {K : PySem.W.Frag} {h : Heap} {mg : Str → Option Value} {fa C f1 f2 f3 f4 f5 f6 f7 f8 f9 f10 f11 f12 f13 f14 f15 : Addr} (X : K.In h) (G : h.Ns mainGlobals mg) (hfa : mg "law" = some (.ref fa))
    {od1 an1 od2 an2 od3 an3 od4 an4 od5 an5 od6 an6 od7 an7 od8 an8 od9 an9 od10 an10 od11 an11 od12 an12 od13 an13 od14 an14 od15 an15 : Option Addr} {sl1 sl2 sl3 sl4 sl5 sl6 sl7 sl8 sl9 sl10 sl11 sl12 sl13 sl14 sl15 : Array (Option Value)} {oc1 kV1 dc1 pm1 cd1 ct1 oc2 kV2 dc2 pm2 cd2 ct2 oc3 kV3 dc3 pm3 cd3 ct3 oc4 kV4 dc4 pm4 cd4 ct4 oc5 kV5 dc5 pm5 cd5 ct5 oc6 kV6 dc6 pm6 cd6 ct6 oc7 kV7 dc7 pm7 cd7 ct7 oc8 kV8 dc8 pm8 cd8 ct8 oc9 kV9 dc9 pm9 cd9 ct9 oc10 kV10 dc10 pm10 cd10 ct10 oc11 kV11 dc11 pm11 cd11 ct11 oc12 kV12 dc12 pm12 cd12 ct12 oc13 kV13 dc13 pm13 cd13 ct13 oc14 kV14 dc14 pm14 cd14 ct14 oc15 kV15 dc15 pm15 cd15 ct15 : Value} {t1 t2 t3 t4 t5 : Tok} {fR : Addr} {fo ro : Option Value} {T11 : Addr} {ocT11 : Value} {odT11 : Option Addr} {nT11 : Nat} {slT11 : Array (Option Value)} {tT11 : Tok}
    (aC : PySem.W.nsIn K mainGlobals "Form" = some (some (.ref C)))
    (a1 : PySem.W.nsIn K mainGlobals "_law_start" = some (some (.ref f1)))
    (l1 : K.lookup f1 = some ⟨oc1, od1, .func (PySem.W.fnOf "_law_start" "_law_start" (defArgs sStart) (defBody sStart) (defScope sStart) .none kV1 dc1 pm1 an1 cd1 ct1), sl1⟩)
    (c1 : PySem.W.codeIn K cd1 "_law_start" = true)
    (k1 : PySem.W.keepIn K (.ref f1) = true)
    (a2 : PySem.W.nsIn K mainGlobals "_law_take" = some (some (.ref f2)))
    (l2 : K.lookup f2 = some ⟨oc2, od2, .func (PySem.W.fnOf "_law_take" "_law_take" (defArgs sTake) (defBody sTake) (defScope sTake) .none kV2 dc2 pm2 an2 cd2 ct2), sl2⟩)
    (c2 : PySem.W.codeIn K cd2 "_law_take" = true)
    (k2 : PySem.W.keepIn K (.ref f2) = true)
    (a3 : PySem.W.nsIn K mainGlobals "_law_name" = some (some (.ref f3)))
    (l3 : K.lookup f3 = some ⟨oc3, od3, .func (PySem.W.fnOf "_law_name" "_law_name" (defArgs s_name) (defBody s_name) (defScope s_name) .none kV3 dc3 pm3 an3 cd3 ct3), sl3⟩)
    (c3 : PySem.W.codeIn K cd3 "_law_name" = true)
    (k3 : PySem.W.keepIn K (.ref f3) = true)
    (a4 : PySem.W.nsIn K mainGlobals "_law_integer" = some (some (.ref f4)))
    (l4 : K.lookup f4 = some ⟨oc4, od4, .func (PySem.W.fnOf "_law_integer" "_law_integer" (defArgs s_integer) (defBody s_integer) (defScope s_integer) .none kV4 dc4 pm4 an4 cd4 ct4), sl4⟩)
    (c4 : PySem.W.codeIn K cd4 "_law_integer" = true)
    (k4 : PySem.W.keepIn K (.ref f4) = true)
    (a5 : PySem.W.nsIn K mainGlobals "_law_parts" = some (some (.ref f5)))
    (l5 : K.lookup f5 = some ⟨oc5, od5, .func (PySem.W.fnOf "_law_parts" "_law_parts" (defArgs s_parts) (defBody s_parts) (defScope s_parts) .none kV5 dc5 pm5 an5 cd5 ct5), sl5⟩)
    (c5 : PySem.W.codeIn K cd5 "_law_parts" = true)
    (k5 : PySem.W.keepIn K (.ref f5) = true)
    (a6 : PySem.W.nsIn K mainGlobals "_law_text" = some (some (.ref f6)))
    (l6 : K.lookup f6 = some ⟨oc6, od6, .func (PySem.W.fnOf "_law_text" "_law_text" (defArgs s_text) (defBody s_text) (defScope s_text) .none kV6 dc6 pm6 an6 cd6 ct6), sl6⟩)
    (c6 : PySem.W.codeIn K cd6 "_law_text" = true)
    (k6 : PySem.W.keepIn K (.ref f6) = true)
    (a7 : PySem.W.nsIn K mainGlobals "valid_name" = some (some (.ref f7)))
    (l7 : K.lookup f7 = some ⟨oc7, od7, .func (PySem.W.fnOf "valid_name" "valid_name" (defArgs sValid) (defBody sValid) (defScope sValid) .none kV7 dc7 pm7 an7 cd7 ct7), sl7⟩)
    (c7 : PySem.W.codeIn K cd7 "valid_name" = true)
    (k7 : PySem.W.keepIn K (.ref f7) = true)
    (a8 : PySem.W.nsIn K mainGlobals "_decimal" = some (some (.ref f8)))
    (l8 : K.lookup f8 = some ⟨oc8, od8, .func (PySem.W.fnOf "_decimal" "_decimal" (defArgs sDec) (defBody sDec) (defScope sDec) .none kV8 dc8 pm8 an8 cd8 ct8), sl8⟩)
    (c8 : PySem.W.codeIn K cd8 "_decimal" = true)
    (k8 : PySem.W.keepIn K (.ref f8) = true)
    (a9 : PySem.W.nsIn K mainGlobals "_signed" = some (some (.ref f9)))
    (l9 : K.lookup f9 = some ⟨oc9, od9, .func (PySem.W.fnOf "_signed" "_signed" (defArgs sSgn) (defBody sSgn) (defScope sSgn) .none kV9 dc9 pm9 an9 cd9 ct9), sl9⟩)
    (c9 : PySem.W.codeIn K cd9 "_signed" = true)
    (k9 : PySem.W.keepIn K (.ref f9) = true)
    (a10 : PySem.W.nsIn K mainGlobals "_term" = some (some (.ref f10)))
    (l10 : K.lookup f10 = some ⟨oc10, od10, .func (PySem.W.fnOf "_term" "_term" (defArgs sTerm) (defBody sTerm) (defScope sTerm) .none kV10 dc10 pm10 an10 cd10 ct10), sl10⟩)
    (c10 : PySem.W.codeIn K cd10 "_term" = true)
    (k10 : PySem.W.keepIn K (.ref f10) = true)
    (a11 : PySem.W.findIn K (.ref C) "__init__" = some (some (.ref f11)))
    (i11 : PySem.W.isFn K (.ref f11) = true)
    (l11 : K.lookup f11 = some ⟨oc11, od11, .func (PySem.W.fnOf "__init__" "Form.__init__" (defArgs sForm_init) (defBody sForm_init) (defScope sForm_init) (.ref T11) kV11 dc11 pm11 an11 cd11 ct11), sl11⟩)
    (lT11 : K.lookup T11 = some ⟨ocT11, odT11, .seq #[.int 0 tT11] nT11, slT11⟩)
    (c11 : PySem.W.codeIn K cd11 "Form.__init__" = true)
    (k11 : PySem.W.keepIn K (.ref f11) = true)
    (a12 : PySem.W.findIn K (.ref C) "__str__" = some (some (.ref f12)))
    (i12 : PySem.W.isFn K (.ref f12) = true)
    (l12 : K.lookup f12 = some ⟨oc12, od12, .func (PySem.W.fnOf "__str__" "Form.__str__" (defArgs sForm_str) (defBody sForm_str) (defScope sForm_str) .none kV12 dc12 pm12 an12 cd12 ct12), sl12⟩)
    (c12 : PySem.W.codeIn K cd12 "Form.__str__" = true)
    (k12 : PySem.W.keepIn K (.ref f12) = true)
    (a13 : PySem.W.findIn K (.ref C) "__neg__" = some (some (.ref f13)))
    (i13 : PySem.W.isFn K (.ref f13) = true)
    (l13 : K.lookup f13 = some ⟨oc13, od13, .func (PySem.W.fnOf "__neg__" "Form.__neg__" (defArgs sForm_neg) (defBody sForm_neg) (defScope sForm_neg) .none kV13 dc13 pm13 an13 cd13 ct13), sl13⟩)
    (c13 : PySem.W.codeIn K cd13 "Form.__neg__" = true)
    (k13 : PySem.W.keepIn K (.ref f13) = true)
    (a14 : PySem.W.findIn K (.ref C) "__mul__" = some (some (.ref f14)))
    (i14 : PySem.W.isFn K (.ref f14) = true)
    (l14 : K.lookup f14 = some ⟨oc14, od14, .func (PySem.W.fnOf "__mul__" "Form.__mul__" (defArgs sForm_mul) (defBody sForm_mul) (defScope sForm_mul) .none kV14 dc14 pm14 an14 cd14 ct14), sl14⟩)
    (c14 : PySem.W.codeIn K cd14 "Form.__mul__" = true)
    (k14 : PySem.W.keepIn K (.ref f14) = true)
    (a15 : PySem.W.nsIn K mainGlobals "law" = some (some (.ref f15)))
    (l15 : K.lookup f15 = some ⟨oc15, od15, .func (PySem.W.fnOf "law" "law" (defArgs sLaw) (defBody sLaw) (defScope sLaw) .none kV15 dc15 pm15 an15 cd15 ct15), sl15⟩)
    (c15 : PySem.W.codeIn K cd15 "law" = true)
    (k15 : PySem.W.keepIn K (.ref f15) = true)
    (m1 : PySem.W.nsIn K mainGlobals "MOST_CHARACTERS" = some (some (.int 6 t1)))
    (m2 : PySem.W.nsIn K mainGlobals "LETTERS" = some (some (.str lowL t2)))
    (m3 : PySem.W.nsIn K mainGlobals "DIGITS" = some (some (.str digL t3)))
    (m4 : PySem.W.nsIn K mainGlobals "RESERVED" = some (some (.str "mod" t4)))
    (m5 : PySem.W.nsIn K mainGlobals "PIECE" = some (some (.int 10000000000000000000000000000000000000000000000000000000000000000 t5)))
    (pg : PySem.W.plainGet K C Str.empty = true)
    (hd : PySem.W.hasDictIn K C = true)
    (po : PySem.W.plainOver K C = true)
    (sa : PySem.W.findIn K (.ref C) "__setattr__" = some (some (.builtin "object.__setattr__")))
    (mk : PySem.W.makesIn K C = true)
    (kc : PySem.W.keepIn K (.ref C) = true)
    (nF : PySem.W.findIn K (.ref C) "_coefficients" = some none)
    (nT : PySem.W.findIn K (.ref C) "_constant" = some none)
    (sf : PySem.W.selfFirst K C = true)
    (rm : PySem.W.findIn K (.ref C) "__rmul__" = some (some (.ref fR)))
    (im : PySem.W.findIn K (.type "int") "__mul__" = some fo)
    (ir : PySem.W.findIn K (.type "int") "__rmul__" = some ro)
    (su : PySem.W.subIn K (.type "int") (.ref C) = some false)
    (z_len : PySem.W.nsIn K mainGlobals "len" = some none)
    (z_int : PySem.W.nsIn K mainGlobals "int" = some none)
    (z_max : PySem.W.nsIn K mainGlobals "max" = some none)
    (z_abs : PySem.W.nsIn K mainGlobals "abs" = some none)
    (z_all : PySem.W.nsIn K mainGlobals "all" = some none)
    (z_range : PySem.W.nsIn K mainGlobals "range" = some none)
    (z_sorted : PySem.W.nsIn K mainGlobals "sorted" = some none)
    (z_str : PySem.W.nsIn K mainGlobals "str" = some none)
    (z_isinstance : PySem.W.nsIn K mainGlobals "isinstance" = some none)
    (z_dict : PySem.W.nsIn K mainGlobals "dict" = some none) :
    ∃ fd : FuncData, (∀ (s : Shared) (v : Value), BindsTo s fd ⟨[v], []⟩ [("_law_script", v)]) ∧ ∀ base : Heap, K.In base → base.Ns mainGlobals mg → FnOk l.prog w K mg base CX0 6 fa fd ["_law_script"] (spLaw K) := by
  have e := hfa.symm.trans (PySem.W.mg_of X G a15)
  cases e
  have F1 := fun_mk (st := sStart) l1 c1 k1
  have b1 := F1.binds (ps := ["_law_script"]) fun _ _ _ _ _ _ us hl => match us, hl with | [_], _ => rfl
  have F2 := fun_mk (st := sTake) l2 c2 k2
  have b2 := F2.binds (ps := ["_law_state", "_law_limit"]) fun _ _ _ _ _ _ us hl => match us, hl with | [_, _], _ => rfl
  have F3 := fun_mk (st := s_name) l3 c3 k3
  have b3 := F3.binds (ps := ["_law_state"]) fun _ _ _ _ _ _ us hl => match us, hl with | [_], _ => rfl
  have F4 := fun_mk (st := s_integer) l4 c4 k4
  have b4 := F4.binds (ps := ["_law_state"]) fun _ _ _ _ _ _ us hl => match us, hl with | [_], _ => rfl
  have F5 := fun_mk (st := s_parts) l5 c5 k5
  have b5 := F5.binds (ps := ["_law_state"]) fun _ _ _ _ _ _ us hl => match us, hl with | [_], _ => rfl
  have F6 := fun_mk (st := s_text) l6 c6 k6
  have b6 := F6.binds (ps := ["_law_parts_here", "_law_constant"]) fun _ _ _ _ _ _ us hl => match us, hl with | [_, _], _ => rfl
  have F7 := fun_mk (st := sValid) l7 c7 k7
  have b7 := F7.binds (ps := ["text"]) fun _ _ _ _ _ _ us hl => match us, hl with | [_], _ => rfl
  have F8 := fun_mk (st := sDec) l8 c8 k8
  have b8 := F8.binds (ps := ["number"]) fun _ _ _ _ _ _ us hl => match us, hl with | [_], _ => rfl
  have F9 := fun_mk (st := sSgn) l9 c9 k9
  have b9 := F9.binds (ps := ["number", "text"]) fun _ _ _ _ _ _ us hl => match us, hl with | [_, _], _ => rfl
  have F10 := fun_mk (st := sTerm) l10 c10 k10
  have b10 := F10.binds (ps := ["name", "coefficient"]) fun _ _ _ _ _ _ us hl => match us, hl with | [_, _], _ => rfl
  have F11 : FunD K "__init__" "Form.__init__" (defArgs sForm_init) (defBody sForm_init) (defScope sForm_init) [V.int 0] [] f11 _ := ⟨⟨_, _, _, _, _, _, _, _, _, _, rfl, l11, c11, .inr ⟨by simp, _, _, _, _, rfl, lT11, rfl, .cons ⟨_, rfl⟩ .nil⟩, .inl rfl⟩, k11⟩
  obtain ⟨ds11, vd11, b11⟩ := F11.binds1 (ps := ["self", "coefficients", "constant"]) 3 1 (by simp) (by decide) fun _ _ _ _ _ _ _ us its h1 h2 => match us, its, h1, h2 with | [_, _, _], [_], _, _ => ⟨_, rfl, rfl⟩
  cases vd11
  have F12 := fun_mk (st := sForm_str) l12 c12 k12
  have b12 := F12.binds (ps := ["self"]) fun _ _ _ _ _ _ us hl => match us, hl with | [_], _ => rfl
  have F13 := fun_mk (st := sForm_neg) l13 c13 k13
  have b13 := F13.binds (ps := ["self"]) fun _ _ _ _ _ _ us hl => match us, hl with | [_], _ => rfl
  have F14 := fun_mk (st := sForm_mul) l14 c14 k14
  have b14 := F14.binds (ps := ["self", "other"]) fun _ _ _ _ _ _ us hl => match us, hl with | [_, _], _ => rfl
  have F15 := fun_mk (st := sLaw) l15 c15 k15
  have mz_len := PySem.W.mg_none_of X G z_len
  have mz_int := PySem.W.mg_none_of X G z_int
  have mz_max := PySem.W.mg_none_of X G z_max
  have mz_abs := PySem.W.mg_none_of X G z_abs
  have mz_all := PySem.W.mg_none_of X G z_all
  have mz_range := PySem.W.mg_none_of X G z_range
  have mz_sorted := PySem.W.mg_none_of X G z_sorted
  have mz_str := PySem.W.mg_none_of X G z_str
  have mz_isinstance := PySem.W.mg_none_of X G z_isinstance
  have mz_dict := PySem.W.mg_none_of X G z_dict
  have G1 : Df K mg "_law_start" f1 := ⟨PySem.W.mg_of X G a1, k1⟩
  have G2 : Df K mg "_law_take" f2 := ⟨PySem.W.mg_of X G a2, k2⟩
  have G3 : Df K mg "_law_name" f3 := ⟨PySem.W.mg_of X G a3, k3⟩
  have G4 : Df K mg "_law_integer" f4 := ⟨PySem.W.mg_of X G a4, k4⟩
  have G5 : Df K mg "_law_parts" f5 := ⟨PySem.W.mg_of X G a5, k5⟩
  have G6 : Df K mg "_law_text" f6 := ⟨PySem.W.mg_of X G a6, k6⟩
  have G7 : Df K mg "valid_name" f7 := ⟨PySem.W.mg_of X G a7, k7⟩
  have G8 : Df K mg "_decimal" f8 := ⟨PySem.W.mg_of X G a8, k8⟩
  have G9 : Df K mg "_signed" f9 := ⟨PySem.W.mg_of X G a9, k9⟩
  have G10 : Df K mg "_term" f10 := ⟨PySem.W.mg_of X G a10, k10⟩
  have T : Bi mg := ⟨mz_len, mz_int, mz_max, mz_abs⟩
  have N : Nm mg := ⟨⟨_, PySem.W.mg_of X G m1⟩, ⟨_, PySem.W.mg_of X G m2⟩, ⟨_, PySem.W.mg_of X G m3⟩, ⟨_, PySem.W.mg_of X G m4⟩, mz_all⟩
  have P : Pc mg := ⟨⟨t5, PySem.W.mg_of X G m5⟩, mz_str, mz_abs⟩
  have CL : Cls K C := ⟨pg, hd, po, sa⟩
  have FT : FTx K mg C := ⟨CL, nF, nT, mz_sorted⟩
  have M : Mk K C f11 := ⟨mk, a11, i11, kc⟩
  have mC : mg "Form" = some (.ref C) := PySem.W.mg_of X G aC
  refine ⟨PySem.W.fnOf "law" "law" (defArgs sLaw) (defBody sLaw) (defScope sLaw) .none kV15 dc15 pm15 an15 cd15 ct15, fun s v => .of_eq rfl, fun base _ _ => ?_⟩
  have E1 := ok_start (P := l.prog) (w := w) (base := base) F1 T
  have E2 := ok_take (P := l.prog) (w := w) (base := base) F2 T
  have E3 := ok_name F3 mz_range E2 G2 b2
  have E4 := ok_int F4 E2 G2 b2
  have E5 := ok_parts F5 mz_range E2 G2 b2 E3 G3 b3 E4 G4 b4
  have E6 := ok_text (P := l.prog) (w := w) (base := base) F6 mz_sorted mz_abs mz_str mz_int
  have E7 := ok_valid (P := l.prog) (w := w) (base := base) F7 T N
  have E8 := ok_dec (P := l.prog) (w := w) (base := base) F8 P
  have E9 := ok_sgn (mg := mg) (P := l.prog) (w := w) (base := base) F9
  have E10 := ok_term F10 P E9 G9 b9 E8 G8 b8
  have E11 := ok_init F11 FT E7 G7 b7
  have E12 := ok_str F12 FT mz_abs E9 G9 b9 E8 G8 b8 E10 G10 b10
  have E14 := ok_mul F14 FT mz_isinstance mz_int mC M E11 b11
  have E13 := ok_neg F13 E14 b14 ⟨⟨a14, i14⟩, sf, ⟨fR, rm⟩, ⟨fo, im⟩, ⟨ro, ir⟩, su⟩
  exact ok_law F15 mz_dict mz_str mC E1 G1 b1 E2 G2 b2 E5 G5 b5 E4 G4 b4 E6 G6 b6 M E11 b11 E12 ⟨a12, i12⟩ b12 E13 ⟨a13, i13⟩ b13
theorem walk {l : PySem.W.OpenLaw} {q : Program} {loose : List Str} {XP : (Str → Option Value) → Heap → Prop} {YP : World → Heap → Prop} {d : DefRec} {K : Params → PySem.W.Frag} (hn : l.most = some 63) (hdf : d.params.defaults = [])
    (hY : ∀ (w : World) (h : Heap), YP w h → (K w.params).In h)
    (F : ∀ (w : World) (mg : Str → Option Value) (fa : Addr) (h : Heap), (K w.params).In h → h.Ns mainGlobals mg → mg d.name = some (.ref fa) →
      ∃ fd : FuncData, (∀ (s : Shared) (u : Value), BindsTo s fd ⟨[u], []⟩ [("_law_script", u)]) ∧ ∀ base : Heap, (K w.params).In base → base.Ns mainGlobals mg → FnOk l.prog w (K w.params) mg base CX0 6 fa fd ["_law_script"] (spLaw (K w.params))) :
    PySem.W.WalkO q loose XP YP l.row.toRowW d [] (fun f vs => PySem.call f vs) :=
  L2.walk_of (n := 63) (k := 6) (x := "_law_script") (CX := fun _ => CX0) (sp := fun w => spLaw (K w.params)) hn (by decide) hdf ⟨rfl, by decide, by decide⟩ hY F (fun _ _ a ns hl _ hS => ⟨a, ns, rfl, hS, hl, fun _ => rfl⟩) fun _ _ _ _ _ z => z
end OS
open PySem PySem.W PyProof.Rows
set_option maxRecDepth 100000 in
set_option maxHeartbeats 0 in
theorem PySem.Challenge.cw_oneshard_k05_form_text_holds : PySem.Challenge.rw_oneshard_k05_form_text.Holds := by
  w_on; o_law; k_head; (case hw => w_witness2)
  k_fill
  refine OS.walk (l := PySem.Challenge.rw_oneshard_k05_form_text) rfl rfl (fun w h Y => PySem.W.kIn_of Y) ?F
  case F =>
    intro w mg fa h KX G hmg
    refine' OS.all_mk KX G hmg ?aC ?a1 ?l1 ?c1 ?k1 ?a2 ?l2 ?c2 ?k2 ?a3 ?l3 ?c3 ?k3 ?a4 ?l4 ?c4 ?k4 ?a5 ?l5 ?c5 ?k5 ?a6 ?l6 ?c6 ?k6 ?a7 ?l7 ?c7 ?k7 ?a8 ?l8 ?c8 ?k8 ?a9 ?l9 ?c9 ?k9 ?a10 ?l10 ?c10 ?k10 ?a11 ?i11 ?l11 ?lT11 ?c11 ?k11 ?a12 ?i12 ?l12 ?c12 ?k12 ?a13 ?i13 ?l13 ?c13 ?k13 ?a14 ?i14 ?l14 ?c14 ?k14 ?a15 ?l15 ?c15 ?k15 ?m1 ?m2 ?m3 ?m4 ?m5 ?pg ?hd ?po ?sa ?mk ?kc ?nF ?nT ?sf ?rm ?im ?ir ?su ?z_len ?z_int ?z_max ?z_abs ?z_all ?z_range ?z_sorted ?z_str ?z_isinstance ?z_dict
    (case aC => k_is)
    (case a1 => k_is)
    (case l1 => k_is)
    (case c1 => k_is)
    (case k1 => k_is)
    (case a2 => k_is)
    (case l2 => k_is)
    (case c2 => k_is)
    (case k2 => k_is)
    (case a3 => k_is)
    (case l3 => k_is)
    (case c3 => k_is)
    (case k3 => k_is)
    (case a4 => k_is)
    (case l4 => k_is)
    (case c4 => k_is)
    (case k4 => k_is)
    (case a5 => k_is)
    (case l5 => k_is)
    (case c5 => k_is)
    (case k5 => k_is)
    (case a6 => k_is)
    (case l6 => k_is)
    (case c6 => k_is)
    (case k6 => k_is)
    (case a7 => k_is)
    (case l7 => k_is)
    (case c7 => k_is)
    (case k7 => k_is)
    (case a8 => k_is)
    (case l8 => k_is)
    (case c8 => k_is)
    (case k8 => k_is)
    (case a9 => k_is)
    (case l9 => k_is)
    (case c9 => k_is)
    (case k9 => k_is)
    (case a10 => k_is)
    (case l10 => k_is)
    (case c10 => k_is)
    (case k10 => k_is)
    (case a11 => k_is)
    (case i11 => k_is)
    (case l11 => k_is)
    (case lT11 => k_is)
    (case c11 => k_is)
    (case k11 => k_is)
    (case a12 => k_is)
    (case i12 => k_is)
    (case l12 => k_is)
    (case c12 => k_is)
    (case k12 => k_is)
    (case a13 => k_is)
    (case i13 => k_is)
    (case l13 => k_is)
    (case c13 => k_is)
    (case k13 => k_is)
    (case a14 => k_is)
    (case i14 => k_is)
    (case l14 => k_is)
    (case c14 => k_is)
    (case k14 => k_is)
    (case a15 => k_is)
    (case l15 => k_is)
    (case c15 => k_is)
    (case k15 => k_is)
    (case m1 => k_is)
    (case m2 => k_is)
    (case m3 => k_is)
    (case m4 => k_is)
    (case m5 => k_is)
    (case pg => k_is)
    (case hd => k_is)
    (case po => k_is)
    (case sa => k_is)
    (case mk => k_is)
    (case kc => k_is)
    (case nF => k_is)
    (case nT => k_is)
    (case sf => k_is)
    (case rm => k_is)
    (case im => k_is)
    (case ir => k_is)
    (case su => k_is)
    (case z_len => k_is)
    (case z_int => k_is)
    (case z_max => k_is)
    (case z_abs => k_is)
    (case z_all => k_is)
    (case z_range => k_is)
    (case z_sorted => k_is)
    (case z_str => k_is)
    (case z_isinstance => k_is)
    (case z_dict => k_is)
#print axioms PySem.Challenge.cw_oneshard_k05_form_text_holds

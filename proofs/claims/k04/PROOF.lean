import PyProof.Rows.All
import Wide.All
import OpenK.AllK
import Wide.FinOn
import HandS.Base
import HandS.Call
import HandS.List
import HandS.Comp
import HandS.Ends
import HandS.Dict
import HandS.Iter
import HandS.Text
import HandS.Words
import HandS.WordsList
import HandS.WordsDict
import HandS.Walk
import HandS.IsInst
import HandS.Defaults
import HandS.Codes
import HandS.More
import HandS.DictComp
import HandS.FStr
import HandS.OwnEq
import HandS.Property
import HandS.Style
import HandS.StrMore
import HandS.Exc
import HandS.ExcOwn
import HandS.ExcInit
import HandS.ExcField
import HandS.ExcIs
import HandS.TryOnly
import HandS.WordsExc
import HandS.Wide
import HandS.Star
import KE.KCallOwn
import KE.KOpsOwn
import PySem.Challenge.RW_oneshard_k04_form_values
set_option Elab.async false
set_option linter.all false
set_option maxRecDepth 100000
set_option maxHeartbeats 2000000
namespace OS
open PySem L2
def top (i : Nat) : Stmt := PySem.Challenge.pw_oneshard_k04_form_values.main.body.getD i (.Pass ⟨0, 0, 0, 0⟩)
abbrev sBadName_init : Stmt := inClass (top 2) 0
abbrev sUnknownName_init : Stmt := inClass (top 3) 0
abbrev sValid : Stmt := top 9
abbrev sDec : Stmt := top 13
abbrev sSgn : Stmt := top 14
abbrev sTerm : Stmt := top 15
abbrev sForm_init : Stmt := inClass (top 16) 0
abbrev sForm_coefficients : Stmt := inClass (top 16) 1
abbrev sForm_constant : Stmt := inClass (top 16) 2
abbrev sForm_getitem : Stmt := inClass (top 16) 3
abbrev sForm_contains : Stmt := inClass (top 16) 4
abbrev sForm_iter : Stmt := inClass (top 16) 5
abbrev sForm_len : Stmt := inClass (top 16) 6
abbrev sForm_eq : Stmt := inClass (top 16) 7
abbrev sForm_neg : Stmt := inClass (top 16) 8
abbrev sForm_add : Stmt := inClass (top 16) 9
abbrev sForm_radd : Stmt := inClass (top 16) 10
abbrev sForm_sub : Stmt := inClass (top 16) 11
abbrev sForm_rsub : Stmt := inClass (top 16) 12
abbrev sForm_mul : Stmt := inClass (top 16) 13
abbrev sForm_rmul : Stmt := inClass (top 16) 14
abbrev sForm_call : Stmt := inClass (top 16) 15
abbrev sForm_str : Stmt := inClass (top 16) 16
abbrev sStart : Stmt := top 18
abbrev sTake : Stmt := top 19
abbrev s_name : Stmt := top 20
abbrev s_integer : Stmt := top 21
abbrev s_parts : Stmt := top 22
abbrev s_call : Stmt := top 23
abbrev s_due : Stmt := top 24
abbrev s_right : Stmt := top 25
abbrev sLaw : Stmt := top 26
end OS
namespace OS
open PySem L2
/-- but for st and cl all that was tracked is as it was -/
def Kb (st cl : Addr) (H H' : Hp) : Prop := ∀ b o, H b = some o → b ≠ st → b ≠ cl → H' b = some o
/-- the drawing state: its cells at cl, at most m draws so far -/
structure StAt (H : Hp) (st cl : Addr) (m : Nat) : Prop where
  ob : ∃ p c : Int, H st = some (.lst [.ref cl, .int p, .int c]) ∧ 0 ≤ c ∧ c ≤ m
  cs : ∃ ns : List Int, H cl = some (.lst (ns.map V.int)) ∧ ns.length ≤ 63
  ne : st ≠ cl
structure Bi (mg : Str → Option Value) : Prop where
  len : mg "len" = none
  int : mg "int" = none
  max : mg "max" = none
  abs : mg "abs" = none
def spTake : Sp := fun vs H Q _ => ∃ (st cl : Addr) (m : Nat) (lim : Int), vs = [.ref st, .int lim] ∧ StAt H st cl m ∧ m ≤ 1000000000 ∧ 0 < lim ∧ lim < 1073741824 ∧
  ∀ (n : Int) (H' : Hp), 0 ≤ n → n < lim → StAt H' st cl (m + 1) → Kb st cl H H' → Q (.int n) H'
theorem fmod_in {i j : Int} (h : 0 < j) : 0 ≤ i.fmod j ∧ i.fmod j < j := ⟨Int.fmod_nonneg_of_pos _ h, Int.fmod_lt_of_pos _ h⟩
theorem getD_int {ns : List Int} {k : Int} (h0 : 0 ≤ k) (h1 : k < (ns.length : Int)) : ∃ z : Int, (ns.map V.int)[k.toNat]? = some (V.int z) ∧ ns[k.toNat]? = some z := by
  have hk : k.toNat < ns.length := by omega
  refine ⟨ns[k.toNat], ?_, List.getElem?_eq_getElem hk⟩
  rw [List.getElem?_map, List.getElem?_eq_getElem hk]
  rfl
theorem ixN_in {n : Nat} {k : Int} (h0 : 0 ≤ k) (h1 : k < (n : Int)) : ixN n k = some k.toNat := by
  unfold ixN
  rw [if_pos h0, if_pos h1]
theorem atI_in {α : Type} {xs : List α} {k : Int} {v : α} (h0 : 0 ≤ k) (h : xs[k.toNat]? = some v) : atI xs k = some v := by
  have := atI_nat h
  rwa [Int.toNat_of_nonneg h0] at this
section
variable {P : Program} {w : World} {K : PySem.W.Frag} {mg : Str → Option Value} {base : Heap}
abbrev nTake : List Str := ["_law_state", "_law_limit", "_law_cells", "_law_at", "_law_cell", "_law_number"]
theorem scTake : FnScope nTake ["_law_state", "_law_limit"] (defScope sTake) := ⟨rfl, rfl, rfl, by decide +kernel, rfl, by decide +kernel, by decide +kernel⟩
theorem ok_take {f : Addr} {fd : FuncData} (F : Fun K "_law_take" "_law_take" sTake f fd) (T : Bi mg) : FnOk P w K mg base CX0 1 f fd ["_law_state", "_law_limit"] spTake := by
  refine F.ok scTake (fun vs H Q E h => ?_) (fun cdv A outer s H vs Q E hr h => ?_)
  · obtain ⟨st, cl, m, lim, rfl, _⟩ := h
    rfl
  · obtain ⟨st, cl, m, lim, rfl, S, hm, hl0, hl1, k⟩ := h
    obtain ⟨⟨p, c, hst, hc0, hc1⟩, ⟨ns, hcl, hn⟩, hne⟩ := S
    refine ⟨_, pss_cons (ps_set (i := 2) scTake.nd rfl (Or.inl rfl) (pe_ix ix_list (pv 0) pe_int fun _ _ => rfl))
      (pss_cons (ps_asg (pe_op op_add (pe_ix ix_list (pv 0) pe_int fun _ _ => rfl) pe_int) (pg_sub (pv 0) pe_int set_list))
      (pss_cons (ps_set (i := 3) scTake.nd rfl (Or.inl rfl) (pe_op op_modN (pe_callTy call_int1 (by rfl) T.int (by decide +kernel) (pa_cons (pe_ix ix_list (pv 0) pe_int fun _ _ => rfl) pa_nil))
          (pe_callB (call_max2 rfl) (by rfl) T.max (by decide +kernel) (pa_cons pe_int (pa_cons (pe_callB call_len_seq (by rfl) T.len PySem.boot_len (pa_cons (pv 2) pa_nil)) pa_nil)))))
      (pss_cons (ps_set (i := 4) scTake.nd rfl (Or.inl rfl) pe_int)
      (pss_cons (ps_if (pt_truth (pv 2) (by intro _; rfl)) (pss_one (ps_set (i := 4) scTake.nd rfl (Or.inl rfl) (pe_ix ix_list (pv 2) (pv 3) fun _ _ => rfl))) pss_nil)
      (pss_cons (ps_if (pt_cmpR op_ge (pe_callB call_abs (by rfl) T.abs (by decide +kernel) (pa_cons (pv 4) pa_nil)) (pe_op op_pow pe_int pe_int) (nomark _))
        (pss_cons (ps_asg (pe_op op_fdivN (pe_callB call_abs (by rfl) T.abs (by decide +kernel) (pa_cons (pv 4) pa_nil)) (pv 1)) (pg_sub (pv 2) (pv 3) set_list))
          (pss_one (ps_ret (pe_op op_modN (pe_callB call_abs (by rfl) T.abs (by decide +kernel) (pa_cons (pv 4) pa_nil)) (pv 1))))) pss_nil)
      (pss_cons (ps_asg (pe_op op_add (pe_ix ix_list (pv 0) pe_int fun _ _ => rfl) pe_int) (pg_sub (pv 0) pe_int set_list))
      (pss_cons (ps_set (i := 5) scTake.nd rfl (Or.inl rfl) (pe_op op_modN (pe_op op_pow (pe_callTy call_int1 (by rfl) T.int (by decide +kernel) (pa_cons (pe_op op_add (pe_op op_add (pe_op op_mul (pe_op op_modN (pe_callTy call_int1 (by rfl) T.int (by decide +kernel) (pa_cons (pv 4) pa_nil)) pe_int) pe_int) (pe_op op_mul (pe_ix ix_list (pv 0) pe_int fun _ _ => rfl) pe_int)) pe_int) pa_nil)) pe_int) pe_int))
      (pss_cons (ps_set (i := 5) scTake.nd rfl (Or.inl rfl) (pe_op op_modN (pe_op op_pow (pe_callTy call_int1 (by rfl) T.int (by decide +kernel) (pa_cons (pe_op op_add (pe_op op_add (pe_op op_mul (pv 5) pe_int) (pe_op op_mul (pe_ix ix_list (pv 0) pe_int fun _ _ => rfl) pe_int)) pe_int) pa_nil)) pe_int) pe_int))
      (pss_one (ps_ret (pe_op op_modN (pe_op op_fdivN (pv 5) pe_int) (pv 1)))))))))))), ?_⟩
    have a0 : atI [V.ref cl, V.int p, V.int c] 0 = some (V.ref cl) := rfl
    refine ⟨_, rfl, st, _, _, _, rfl, rfl, SqL.of hst, a0, ?_⟩
    -- state[2] = state[2] + 1
    refine ⟨_, rfl, st, _, _, V.int c, rfl, rfl, SqL.of hst, rfl, _, _, rfl, rfl, ?_⟩
    refine ⟨_, rfl, st, _, _, 2, rfl, rfl, hst, rfl, ?_⟩
    have h1 : ∀ o, (upd H st o) cl = some (.lst (ns.map V.int)) := fun o => by rw [upd_ne hne.symm]; exact hcl
    -- at = int(state[1]) % max(1, len(cells))
    refine ⟨_, rfl, st, _, _, V.int p, rfl, rfl, SqL.of upd_same, rfl, .inl ⟨_, rfl, ?_⟩⟩
    refine ⟨_, rfl, cl, ns.map V.int, rfl, .inl (SqL.of (h1 _)), _, _, rfl, ?_⟩
    have hL : (((ns.map V.int).length : Nat) : Int) = (ns.length : Int) := by rw [List.length_map]
    rw [hL]
    have hmx : ∃ mx : Int, (if (ns.length : Int) > 1 then (ns.length : Int) else 1) = mx ∧ 0 < mx ∧ (0 < ns.length → mx ≤ ns.length) := by
      refine ⟨_, rfl, ?_, fun _ => ?_⟩
      · split <;> omega
      · split <;> omega
    obtain ⟨mx, emx, mx0, mx1⟩ := hmx
    rw [emx]
    refine ⟨_, _, rfl, rfl, (by omega), ?_⟩
    obtain ⟨ka, kb⟩ := fmod_in (i := p) mx0
    obtain ⟨at_, hat⟩ : ∃ a, a = p.fmod mx := ⟨_, rfl⟩
    rw [← hat] at ka kb
    -- cell = 0; if cells: cell = cells[at]
    refine ⟨_, rfl, _, .inl ⟨_, SqL.of (h1 _), rfl⟩, ?_⟩
    show if (!(ns.map V.int).isEmpty) = true then _ else _
    have hE : (!(ns.map V.int).isEmpty) = decide (0 < ns.length) := by cases ns <;> simp
    rw [hE]
    rw [show (fun i j => V.int (Int.fmod i j)) p mx = V.int at_ by rw [hat]]
    have h10 : ((10 : Int) ^ (18 : Int).toNat) = 1000000000000000000 := by decide
    by_cases hp : 0 < ns.length
    all_goals first
      | have hp' : 0 < ns.length := hp
        rw [decide_eq_true hp]
        refine iteT ?_
        obtain ⟨z, hz1, hz2⟩ := getD_int (ns := ns) (k := at_) ka (by have := mx1 hp; omega)
        refine ⟨_, rfl, _, rfl, cl, _, _, V.int z, rfl, rfl, SqL.of (h1 _), atI_in ka hz1, ?_⟩
        have hz : z = 0 ∨ at_ < (ns.length : Int) := .inr (by have := mx1 hp; omega)
      | have hp' : ¬ 0 < ns.length := hp
        rw [decide_eq_false hp]
        refine iteF ?_
        obtain ⟨z, ez⟩ : ∃ z : Int, z = 0 := ⟨0, rfl⟩
        rw [show (some (V.int 0) : Option V) = some (V.int z) by rw [ez]]
        have hz : z = 0 ∨ at_ < (ns.length : Int) := .inl ez
    all_goals
      refine ⟨_, rfl, _, rfl, _, _, rfl, rfl, ⟨by decide, by decide, by decide⟩, _, _, rfl, rfl, _, rfl, ?_⟩
      rw [h10]
      obtain ⟨az, haz⟩ : ∃ az, az = (if z < 0 then -z else z) := ⟨_, rfl⟩
      have haz0 : 0 ≤ az := by rw [haz]; split <;> omega
      rw [← haz]
      refine ite2 (fun hb => ?_) (fun hb => ?_)
      · have hb' : (1000000000000000000 : Int) ≤ az := of_decide_eq_true hb
        have hat2 : at_ < (ns.length : Int) := by
          rcases hz with h | h
          · subst h; rw [haz] at hb'; simp at hb'
          · exact h
        refine ⟨_, rfl, _, rfl, _, rfl, _, _, rfl, rfl, ⟨by omega, by omega⟩, ?_⟩
        refine ⟨_, rfl, _, rfl, cl, _, _, at_.toNat, rfl, rfl, h1 _, ixN_in ka (by rw [List.length_map]; exact hat2), ?_⟩
        refine ⟨_, rfl, _, rfl, _, rfl, _, _, rfl, rfl, (by omega), ?_⟩
        rw [← haz]
        obtain ⟨k0, k1⟩ := fmod_in (i := az) hl0
        refine k _ _ k0 k1 ⟨⟨p, c + 1, ?_, by omega, by push_cast; omega⟩, ⟨ns.set at_.toNat (az.fdiv lim), ?_, by rw [List.length_set]; exact hn⟩, hne⟩ ?_
        · rw [upd_ne hne, upd_same]
          rfl
        · rw [upd_same, List.map_set]
        · intro b o e hb1 hb2
          rw [upd_ne hb2, upd_ne hb1]
          exact e
      · -- state[1] = state[1] + 1
        refine ⟨_, rfl, st, _, _, V.int p, rfl, rfl, SqL.of upd_same, rfl, _, _, rfl, rfl, ?_⟩
        refine ⟨_, rfl, st, _, _, 1, rfl, rfl, upd_same, rfl, ?_⟩
        -- number
        have r1 : ∀ i : Int, 0 ≤ i.fmod 2147483647 ∧ i.fmod 2147483647 < 2147483647 := fun i => fmod_in (by decide)
        obtain ⟨y1, hy1⟩ : ∃ y, y = z.fmod 2147483647 := ⟨_, rfl⟩
        obtain ⟨q1, q2⟩ := r1 z
        rw [← hy1] at q1 q2
        refine ⟨_, rfl, .inl ⟨_, rfl, ?_⟩⟩
        refine ⟨_, _, rfl, rfl, (by show (_ : Int) ≠ 0; decide), ?_⟩
        rw [show (fun i j => V.int (Int.fmod i j)) z 2147483647 = V.int y1 by rw [hy1]]
        refine ⟨_, _, rfl, rfl, .inl ⟨by omega, by omega⟩, ?_⟩
        refine ⟨_, rfl, st, _, _, V.int (c + 1), rfl, rfl, SqL.of upd_same, rfl, _, _, rfl, rfl, .inl ⟨by omega, by omega⟩, ?_⟩
        refine ⟨_, _, rfl, rfl, _, _, rfl, rfl, .inl ⟨_, rfl, ?_⟩⟩
        refine ⟨_, _, rfl, rfl, ⟨by decide, by decide, ?_⟩, ?_⟩
        · show (y1 * 48271 + (c + 1) * 69621 + 11).natAbs < 2 ^ 64
          omega
        refine ⟨_, _, rfl, rfl, (by show (_ : Int) ≠ 0; decide), ?_⟩
        obtain ⟨q3, q4⟩ := r1 ((y1 * 48271 + (c + 1) * 69621 + 11) ^ (5 : Int).toNat)
        obtain ⟨y2, hy2⟩ : ∃ y, y = ((y1 * 48271 + (c + 1) * 69621 + 11) ^ (5 : Int).toNat).fmod 2147483647 := ⟨_, rfl⟩
        rw [← hy2] at q3 q4
        refine ⟨_, rfl, _, _, rfl, rfl, .inl ⟨?_, ?_⟩, ?_⟩
        · show -(2 ^ 64) < (((y1 * 48271 + (c + 1) * 69621 + 11) ^ (5 : Int).toNat).fmod 2147483647)
          rw [← hy2]; omega
        · show (((y1 * 48271 + (c + 1) * 69621 + 11) ^ (5 : Int).toNat).fmod 2147483647) < 2 ^ 64
          rw [← hy2]; omega
        refine ⟨_, rfl, st, _, _, V.int (c + 1), rfl, rfl, SqL.of upd_same, rfl, _, _, rfl, rfl, .inl ⟨by omega, by omega⟩, ?_⟩
        refine ⟨_, _, rfl, rfl, _, _, rfl, rfl, .inl ⟨_, rfl, ?_⟩⟩
        refine ⟨_, _, rfl, rfl, ⟨by decide, by decide, ?_⟩, ?_⟩
        · show ((((y1 * 48271 + (c + 1) * 69621 + 11) ^ (5 : Int).toNat).fmod 2147483647) * 16807 + (c + 1) * 40692 + 7).natAbs < 2 ^ 64
          rw [← hy2]; omega
        refine ⟨_, _, rfl, rfl, (by show (_ : Int) ≠ 0; decide), ?_⟩
        refine ⟨_, rfl, _, _, rfl, rfl, ⟨by decide, by decide⟩, _, rfl, _, _, rfl, rfl, (by omega), ?_⟩
        obtain ⟨k0, k1⟩ := fmod_in (i := (((((((y1 * 48271 + (c + 1) * 69621 + 11) ^ (5 : Int).toNat).fmod 2147483647) * 16807 + (c + 1) * 40692 + 7) ^ (5 : Int).toNat).fmod 2147483629).fdiv 16)) hl0
        refine k _ _ k0 k1 ⟨⟨p + 1, c + 1, ?_, by omega, by push_cast; omega⟩, ⟨ns, ?_, hn⟩, hne⟩ ?_
        · rw [upd_same]
          rfl
        · rw [upd_ne hne.symm, upd_ne hne.symm]
          exact hcl
        · intro b o e hb1 hb2
          rw [upd_ne hb1, upd_ne hb1]
          exact e
def spStart (K : PySem.W.Frag) : Sp := fun vs H Q _ => ∃ (a : Addr) (ns : List Int), vs = [.ref a] ∧ SqL K H a (ns.map V.int) ∧ ns.length ≤ 63 ∧
  ∀ (st cl : Addr) (H' : Hp), StAt H' st cl 0 → Same H H' → H st = none → H cl = none → Q (.ref st) H'
abbrev nStart : List Str := ["_law_script", "_law_cell"]
theorem scStart : FnScope nStart ["_law_script"] (defScope sStart) := ⟨rfl, rfl, rfl, by decide +kernel, rfl, by decide +kernel, by decide +kernel⟩
theorem ok_start {f : Addr} {fd : FuncData} (F : Fun K "_law_start" "_law_start" sStart f fd) (T : Bi mg) : FnOk P w K mg base CX0 1 f fd ["_law_script"] (spStart K) := by
  refine F.ok scStart (fun vs H Q E h => ?_) (fun cdv A outer s H vs Q E hr h => ?_)
  · obtain ⟨a, ns, rfl, _⟩ := h
    rfl
  · obtain ⟨a, ns, rfl, hS, hn, k⟩ := h
    refine ⟨_, pss_one (ps_ret (pe_lst (pa_cons (pe_lc (own := [("_law_cell", 1)]) (g := gName 1) (tt := tYes) rfl scStart.nd (pi_list (pv 0)) (blkOk_by (own := [("_law_cell", 1)]) (N := nStart) (sc := defScope sStart) (by decide +kernel))
        (fun _ _ _ _ _ => pg_name (i := 1) scStart.nd rfl (Or.inl rfl)) (fun _ _ _ _ _ => pts_nil) (fun _ _ _ _ _ => pe_callTy call_int1 (by rfl) T.int (by decide +kernel) (pa_cons (pv 1) pa_nil)))
      (pa_cons pe_int (pa_cons pe_int pa_nil))))), ?_⟩
    refine ⟨_, rfl, a, rfl, ⟨_, hS⟩, fun D hD => lc_list (K := K) (a := a) (xs := ns.map V.int) (fun i H' => Same H H' ∧ H' D = some (.lst ((ns.take i).map V.int))) ⟨?_, ?_⟩ (fun i H' _ h => h.1.seq hS) ?_ ?_⟩
    · intro b o e
      rw [upd_ne (ne_of_none e hD)]
      exact e
    · rw [upd_same]
      rfl
    · intro i x H' hi ⟨s1, s2⟩
      obtain ⟨z, hz, rfl⟩ : ∃ z, ns[i]? = some z ∧ x = V.int z := by
        rw [List.getElem?_map] at hi
        cases e : ns[i]? with
        | none => rw [e] at hi; cases hi
        | some z => rw [e] at hi; exact ⟨z, rfl, (Option.some.inj hi).symm⟩
      have hil : i < ns.length := (List.getElem?_eq_some_iff.mp hz).1
      refine ⟨rfl, ?_⟩
      refine ⟨_, rfl, .inl ⟨_, rfl, _, s2, ?_, ?_, ?_⟩⟩
      · rw [List.length_map, List.length_take]
        exact small1000 (by omega)
      · intro b o e
        rw [upd_ne (ne_of_none e hD)]
        exact s1 b o e
      · rw [upd_same, List.take_succ, hz]
        simp
    · intro H' ⟨s1, s2⟩
      rw [List.length_map, List.take_length] at s2
      refine ⟨by show 3 ≤ sizeLine; decide, fun st hst => ?_⟩
      have hne : st ≠ D := (ne_of_none s2 hst).symm
      refine k st D _ ⟨⟨0, 0, upd_same, by decide, by decide⟩, ⟨ns, by rw [upd_ne hne.symm]; exact s2, hn⟩, hne⟩ ?_ ?_ hD
      · intro b o e
        rw [upd_ne (ne_of_none (s1 b o e) hst)]
        exact s1 b o e
      · exact s1.free hst
end
end OS
namespace OS
open PySem L2
abbrev lowL : Str := "abcdefghijklmnopqrstuvwxyz"
abbrev digL : Str := "0123456789"
def chOk (c : Nat) : Bool := decide (c ∈ lowL.cps.toList) || decide (c ∈ digL.cps.toList)
/-- what a name is, over a text's signs -/
def good (z : Str) : Bool :=
  if z = "mod" then false else if z.cps.toList.length < 1 ∨ 6 < z.cps.toList.length then false
  else if z.cps.toList.headD 0 ∈ lowL.cps.toList then z.cps.toList.all chOk else false
theorem Str.len_list (z : Str) : z.length = z.cps.toList.length := by
  show z.cps.size = _
  rw [Array.length_toList]
structure Nm (mg : Str → Option Value) : Prop where
  most : ∃ t, mg "MOST_CHARACTERS" = some (.int 6 t)
  let_ : ∃ t, mg "LETTERS" = some (.str lowL t)
  dig : ∃ t, mg "DIGITS" = some (.str digL t)
  res : ∃ t, mg "RESERVED" = some (.str "mod" t)
  all : mg "all" = none
theorem pe_gs {X : Cx} {x : Str} {pos : Pos} {z : Str} {t : Tok} (hg : Gl X x) (hm : X.mg x = some (.str z t)) (hd : (x == ("__debug__" : Str)) = false := by decide) : PE X (.Name x pos) (tC (.str z)) := pe_glob hg hm ⟨t, rfl⟩ hd
theorem pe_gi {X : Cx} {x : Str} {pos : Pos} {z : Int} {t : Tok} (hg : Gl X x) (hm : X.mg x = some (.int z t)) (hd : (x == ("__debug__" : Str)) = false := by decide) : PE X (.Name x pos) (tC (.int z)) := pe_glob hg hm ⟨t, rfl⟩ hd
def spValid : Sp := fun vs H Q _ => ∃ (z : Str), vs = [.str z] ∧ z.length ≤ 1000 ∧ ∀ H', Same H H' → Q (.bl (good z)) H'
section
variable {P : Program} {w : World} {K : PySem.W.Frag} {mg : Str → Option Value} {base : Heap}
abbrev nValid : List Str := ["text", "character"]
theorem scValid : FnScope nValid ["text"] (defScope sValid) := ⟨rfl, rfl, rfl, by decide +kernel, rfl, by decide +kernel, by decide +kernel⟩
theorem ok_valid {f : Addr} {fd : FuncData} (F : Fun K "valid_name" "valid_name" sValid f fd) (T : Bi mg) (N : Nm mg) : FnOk P w K mg base CX0 1 f fd ["text"] spValid := by
  obtain ⟨⟨t1, mM⟩, ⟨t2, mL⟩, ⟨t3, mD⟩, ⟨t4, mR⟩, mA⟩ := N
  refine F.ok scValid (fun vs H Q E h => ?_) (fun cdv A outer s H vs Q E hr h => ?_)
  · obtain ⟨z, rfl, _⟩ := h
    rfl
  · obtain ⟨z, rfl, hz, k⟩ := h
    refine ⟨_, pss_cons (ps_if (PW.pt (pw_or (pt_cmpR op_eq (pv 0) (pe_gs rfl mR) (nomark _)) (pw_or1 (pt_not (pt_chain op_le op_le pe_int (pe_callB call_len_str (by rfl) T.len PySem.boot_len (pa_cons (pv 0) pa_nil)) (pe_gi rfl mM)))))) (pss_one (ps_ret pe_bl)) pss_nil)
      (pss_cons (ps_if (pt_cmpR op_notIn_sign (pe_ix ix_str (pv 0) pe_int fun _ _ => rfl) (pe_gs rfl mL) rfl) (pss_one (ps_ret pe_bl)) pss_nil)
      (pss_one (ps_ret (pe_callB (cr_all rfl) (by rfl) mA (by decide +kernel) (pa_cons
        (pe_lc (own := [("character", 1)]) (g := gName 1) (tt := tYes) rfl scValid.nd (pi_str (pv 0)) (blkOk_by (own := [("character", 1)]) (N := nValid) (sc := defScope sValid) (by decide +kernel))
        (fun _ _ _ _ _ => pg_name (i := 1) scValid.nd rfl (Or.inl rfl)) (fun _ _ _ _ _ => pts_nil) (fun _ _ _ _ _ => pe_or (pe_cmpR op_in_sign (pv 1) (pe_gs rfl mL) rfl) (pe_one (pe_cmpR op_in_sign (pv 1) (pe_gs rfl mD) rfl)))) pa_nil))))), ?_⟩
    have hs : z.length ≤ sizeLine := Nat.le_of_lt (small1000 hz)
    have hln := Str.len_list z
    have edec : decide (V.str z = V.str "mod") = decide (z = "mod") := by
      by_cases h : z = "mod"
      · rw [decide_eq_true h, decide_eq_true (congrArg V.str h)]
      · rw [decide_eq_false h, decide_eq_false (fun e => h (V.str.inj e))]
    refine ⟨_, rfl, rfl, _, rfl, ?_⟩
    rw [edec]
    have hkf : ∀ H', Same H H' → good z = false → Q (.bl false) H' := fun H' s g => by have := k H' s; rwa [g] at this
    refine ite2 (fun hm => ?_) (fun hm => ?_)
    · exact hkf H (Same.refl H) (by unfold good; rw [if_pos (of_decide_eq_true hm)])
    have hm' : ¬ z = "mod" := fun e => hm (decide_eq_true e)
    have hkb : ∀ H', Same H H' → ¬ (1 ≤ z.length ∧ z.length ≤ 6) → Q (.bl false) H' := fun H' s g => hkf H' s (by unfold good; rw [if_neg hm', if_pos (by omega)])
    refine ⟨_, rfl, _, rfl, hs, _, _, rfl, rfl, _, rfl, ?_⟩
    refine ite2 (fun h1 => ?_) (fun h1 => ?_)
    rotate_left
    · have h1' : ¬ ((1 : Int) ≤ z.length) := fun e => h1 (decide_eq_true e)
      refine ⟨_, rfl, iteT ?_⟩
      exact hkb H (Same.refl H) (by omega)
    have h1' : (1 : Int) ≤ z.length := of_decide_eq_true h1
    refine ⟨_, _, rfl, rfl, _, rfl, ?_⟩
    by_cases h6 : (z.length : Int) ≤ 6
    rotate_left
    · rw [decide_eq_false h6]
      refine iteT ?_
      exact hkb H (Same.refl H) (by omega)
    rw [decide_eq_true h6]
    refine iteF ?_
    -- text[0] not in LETTERS
    obtain ⟨c0, l0, hl0⟩ : ∃ c0 l0, z.cps.toList = c0 :: l0 := by
      cases e : z.cps.toList with
      | nil => rw [e] at hln; simp at hln; omega
      | cons c l => exact ⟨c, l, rfl⟩
    refine ⟨_, rfl, _, _, c0, rfl, rfl, hs, ?_, _, _, rfl, rfl, _, rfl, ?_⟩
    · show atI _ _ = _
      exact atI_nat (j := 0) (by rw [hl0]; rfl)
    have gd : good z = (if c0 ∈ lowL.cps.toList then z.cps.toList.all chOk else false) := by
      unfold good
      rw [if_neg hm', if_neg (by omega), hl0]
      rfl
    by_cases hc : c0 ∈ lowL.cps.toList
    rotate_left
    · rw [decide_eq_false hc]
      refine iteT ?_
      exact hkf H (Same.refl H) (by rw [gd, if_neg hc])
    rw [decide_eq_true hc]
    refine iteF ?_
    rw [if_pos hc] at gd
    -- all([..])
    refine ⟨_, rfl, z, rfl, fun D hD => lc_it (walk_str (z := z)) (fun i H' => Same H H' ∧ H' D = some (.lst (((z.cps.toList.take i).map chOk).map V.bl))) ⟨?_, ?_⟩ (fun _ _ _ _ => trivial) ?_ ?_⟩
    · intro b o e
      rw [upd_ne (ne_of_none e hD)]
      exact e
    · rw [upd_same]
      rfl
    · intro i x H' H2 hi ⟨s1, s2⟩ ⟨e, c, hcc, ex⟩
      subst e
      subst ex
      have hcl : z.cps.toList[i]? = some c := by rw [Array.getElem?_toList]; exact hcc
      have step : Same H (upd H2 D (.lst (((z.cps.toList.take i).map chOk).map V.bl ++ [V.bl (chOk c)]))) ∧ (upd H2 D (.lst (((z.cps.toList.take i).map chOk).map V.bl ++ [V.bl (chOk c)]))) D = some (.lst (((z.cps.toList.take (i + 1)).map chOk).map V.bl)) := by
        refine ⟨fun b o e => ?_, ?_⟩
        · rw [upd_ne (ne_of_none e hD)]
          exact s1 b o e
        · rw [upd_same, List.take_succ, hcl]
          simp
      have hlen : (((z.cps.toList.take i).map chOk).map V.bl).length < sizeLine := by
        rw [List.length_map, List.length_map, List.length_take]
        exact small1000 (by omega)
      refine ⟨rfl, ?_⟩
      refine ⟨_, rfl, _, _, rfl, rfl, _, rfl, ?_⟩
      by_cases ha : c ∈ lowL.cps.toList
      · have ek : chOk c = true := by unfold chOk; rw [decide_eq_true ha]; rfl
        rw [ek] at step
        rw [decide_eq_true ha]
        refine iteT ?_
        exact ⟨_, s2, hlen, step⟩
      · have ek : chOk c = decide (c ∈ digL.cps.toList) := by unfold chOk; rw [decide_eq_false ha]; rfl
        rw [ek] at step
        rw [decide_eq_false ha]
        refine iteF ?_
        exact ⟨_, rfl, _, _, rfl, rfl, _, s2, hlen, step⟩
    · intro H' ⟨s1, s2⟩
      refine ⟨D, z.cps.toList.map chOk, rfl, ?_, ?_⟩
      · refine SqL.of ?_
        rw [s2, List.take_of_length_le (by rw [Array.length_toList]; exact Nat.le_refl _)]
      · have := k H' s1
        rw [gd] at this
        rw [List.all_map]
        exact this
end
end OS
namespace OS
open PySem L2 PySem.Spec PyProof.Rows
section
variable {X : Cx} {CX : CXT} {n : Nat} {f C : Addr} {fd : FuncData} {ps : List Str} {sp : Sp} {E : XK}
/-- a def run by the machine itself (an operator of an own class), somewhere below the running body -/
theorem run_at {A : Around} (F : FnOk X.prog X.w X.K X.mg X.base CX n f fd ps sp) (sb : Sub X n A) (hb : Binds X.K fd ps []) (hx : Passes CX X E) {pins : List (Addr × Obj)} {σ : L2.St} {H : Hp} {s : Shared} {vs : List V} {us : List Value} {Q : VK} {R : Value → Shared → Prop}
    (I : Inv X pins σ H s) (r : Vals vs us) (h : sp vs H Q E) (k : ∀ v u H' s', Inv X pins σ H' s' → RelV v u → Q v H' → R u s') : wpAny (model X.prog X.w) A (call (.ref f) us) R X.xe s := by
  have e0 : Env0 X.prog X.w X.K X.mg X.base A X.stack s H := by
    have e := I.env0
    exact ⟨by rw [sb.fr]; exact e.frames, e.mod, e.bs, e.bsz, e.funs, e.frf, e.hok, e.bare⟩
  have hl := F.len _ _ _ _ h
  refine wpAny_call (codeAny_mono (F.run A X.stack s H ⟨us, []⟩ us vs _ E sb.room e0 (by
    have := hb s us I.kIn (by rw [List.append_nil, ← r.length]; exact hl)
    simpa using this) r h) fun r' s' hq => ?_)
  cases r' with
  | error e => exact hx pins σ H s e s' I hq
  | ok fl =>
    cases fl with
    | ret u =>
      obtain ⟨v, H', I', rv, q⟩ := I.after hq
      exact k v u H' s' I' rv q
    | next => exact False.elim hq
    | brk => exact False.elim hq
    | cont => exact False.elim hq
theorem v1 {a : Addr} : Vals [V.ref a] [Value.ref a] := .cons rfl .nil
theorem v2 {a b : Addr} : Vals [V.ref a, V.ref b] [Value.ref a, Value.ref b] := .cons rfl (.cons rfl .nil)
theorem v2i {a : Addr} {i : Int} {t : Tok} : Vals [V.ref a, V.int i] [Value.ref a, Value.int i t] := .cons rfl (.cons ⟨t, rfl⟩ .nil)
theorem notImpl {v : V} {u : Value} {Q : Value → Shared → Prop} {s : Shared} (r : RelV v u) (q : Q u s) : PySem.W.CmpBack Q u s := by
  cases v with
  | non => cases r; exact q
  | bl b => cases r; exact q
  | int i => obtain ⟨t, rfl⟩ := r; exact q
  | str i => obtain ⟨t, rfl⟩ := r; exact q
  | byt i => obtain ⟨t, rfl⟩ := r; exact q
  | flt i => obtain ⟨t, rfl⟩ := r; exact q
  | ref i => cases r; exact q
  | ty i => cases r; exact q
/-- an own method found by name, as the machine asks it -/
structure Own (K : PySem.W.Frag) (C : Addr) (m : Str) (f : Addr) : Prop where
  at_ : PySem.W.findIn K (.ref C) m = some (some (.ref f))
  fn : PySem.W.isFn K (.ref f) = true
/-- one operand, an instance of the class at C -/
def rU1 (C : Addr) (sp : Sp) (E : XK) : V → Hp → VK → Prop := fun x H Q => ∃ a dx fs, x = .ref a ∧ H a = some (.ins C dx fs) ∧ sp [x] H Q E
/-- -x by the own __neg__ -/
theorem un_negO (F : FnOk X.prog X.w X.K X.mg X.base CX n f fd ps sp) (o : Own X.K C "__neg__" f) (hr : Room n X.A) (hb : Binds X.K fd ps []) (hx : Passes CX X E) : UnR X (unaryOp .USub) (rU1 C sp E) := by
  intro pins s σ H x v Q I rx h
  obtain ⟨a, dx, fs, rfl, ha, q⟩ := h
  cases rx
  obtain ⟨mA, J, _⟩ := ins_get I.hok ha
  obtain ⟨od, J, _⟩ := J.look
  obtain ⟨m, hF⟩ := I.fr
  exact PySem.W.ksp_neg hF I.ok.mod.kin J o.at_ o.fn (run_at F ⟨hr, rfl⟩ hb hx I v1 q fun v u H' s' I' rv qv => ⟨v, H', I', rv, qv⟩)
/-- an instance of the class at C on the left, an int on the right -/
def rB1 (C : Addr) (sp : Sp) (E : XK) : R2 := fun x y H Q => ∃ a dx fs i, x = .ref a ∧ y = .int i ∧ H a = some (.ins C dx fs) ∧ sp [x, y] H Q E
theorem op_ownI {op : Operator} {fo ro rc : Option Value} (F : FnOk X.prog X.w X.K X.mg X.base CX n f fd ps sp) (o : Own X.K C (PySem.dunder op.info.2) f) (hc : PySem.W.selfFirst X.K C = true)
    (hrr : PySem.W.findIn X.K (.ref C) (dunderR op.info.2) = some rc) (hp : rc = none ∨ ∃ g : Addr, rc = some (.ref g)) (h1 : PySem.W.findIn X.K (.type "int") (PySem.dunder op.info.2) = some fo) (h2 : PySem.W.findIn X.K (.type "int") (dunderR op.info.2) = some ro)
    (hsub : PySem.W.subIn X.K (.type "int") (.ref C) = some false) (hr : Room n X.A) (hb : Binds X.K fd ps []) (hx : Passes CX X E) : OpR X (binaryOp op) (rB1 C sp E) := by
  intro pins s σ H x y v u Q I rx ry h
  obtain ⟨a, dx, fs, i, rfl, rfl, ha, q⟩ := h
  cases rx
  obtain ⟨t, rfl⟩ := ry
  obtain ⟨mA, J, _⟩ := ins_get I.hok ha
  obtain ⟨od, J, _⟩ := J.look
  obtain ⟨m, hF⟩ := I.fr
  exact PySem.W.ksp_binT (T := "int") hF I.ok.mod.kin J rfl hc o.at_ o.fn hrr hp h1 h2 hsub (run_at F ⟨hr, rfl⟩ hb hx I v2i q fun v u H' s' I' rv qv => notImpl rv ⟨v, H', I', rv, qv⟩)
/-- two instances of the class at C -/
def rB2 (C : Addr) (sp : Sp) (E : XK) : R2 := fun x y H Q => ∃ a dx fs b dy gs, x = .ref a ∧ y = .ref b ∧ H a = some (.ins C dx fs) ∧ H b = some (.ins C dy gs) ∧ sp [x, y] H Q E
theorem op_own2 {op : Operator} (F : FnOk X.prog X.w X.K X.mg X.base CX n f fd ps sp) (o : Own X.K C (PySem.dunder op.info.2) f) (hc : PySem.W.selfFirst X.K C = true)
    (hr : Room n X.A) (hb : Binds X.K fd ps []) (hx : Passes CX X E) : OpR X (binaryOp op) (rB2 C sp E) := by
  intro pins s σ H x y v u Q I rx ry h
  obtain ⟨a, dx, fs, b, dy, gs, rfl, rfl, ha, hb', q⟩ := h
  cases rx
  cases ry
  obtain ⟨mA, J, _⟩ := ins_get I.hok ha
  obtain ⟨mB, J', _⟩ := ins_get I.hok hb'
  obtain ⟨od, J, _⟩ := J.look
  obtain ⟨od', J', _⟩ := J'.look
  obtain ⟨m, hF⟩ := I.fr
  exact PySem.W.binop_K hF I.ok.mod.kin J J'.type hc o.at_ o.fn (run_at F ⟨hr, rfl⟩ hb hx I v2 q fun v u H' s' I' rv qv => notImpl rv ⟨v, H', I', rv, qv⟩)
/-- str(x) by the own __str__ -/
def rStrO (C : Addr) (sp : Sp) (E : XK) : List V → Hp → VK → Prop := fun xs H Q => ∃ a dx fs, xs = [.ref a] ∧ H a = some (.ins C dx fs) ∧ sp xs H (fun v H' => (∃ z, v = .str z) ∧ Q v H') E
theorem call_strO (F : FnOk X.prog X.w X.K X.mg X.base CX n f fd ps sp) (o : Own X.K C "__str__" f) (hr : Room (n + 2) X.A) (hb : Binds X.K fd ps []) (hx : Passes CX X E) : CallR X (.type "str") (rStrO C sp E) := by
  intro pins s σ H xs us Q I r h
  obtain ⟨a, dx, fs, rfl, ha, q⟩ := h
  obtain ⟨u, rfl, ru⟩ := vals1 r
  cases ru
  obtain ⟨mA, J, _⟩ := ins_get I.hok ha
  obtain ⟨od, J, _⟩ := J.look
  have sb : Sub X n X.A.in1.in1 := (Sub.in1 (n := n) (Sub.in1 (n := n + 1) ⟨hr, rfl⟩))
  refine PySem.W.kso_call (by have := sb.room.units0; exact this) I.kIn J o.at_ o.fn (run_at F sb hb hx I v1 q fun v u H' s' I' rv qv => ?_)
  obtain ⟨⟨z, rfl⟩, qv⟩ := qv
  obtain ⟨t, rfl⟩ := id rv
  exact ⟨_, H', I', rv, qv⟩
end
end OS
namespace OS
open PySem L2 PySem.Spec PyProof.Rows
/-! ### texts in their order -/
theorem ltc_irr : ∀ a : List Nat, ltCps a a = false
  | [] => rfl
  | a :: r => by simp [ltCps, ltc_irr r]
theorem ltc_trans : ∀ {a b c : List Nat}, ltCps a b = true → ltCps b c = true → ltCps a c = true
  | [], [], _, h, _ => by simp [ltCps] at h
  | [], _ :: _, [], _, h => by simp [ltCps] at h
  | [], _ :: _, _ :: _, _, _ => rfl
  | _ :: _, [], _, h, _ => by simp [ltCps] at h
  | _ :: _, _ :: _, [], _, h => by simp [ltCps] at h
  | a :: r, b :: s, c :: t, h1, h2 => by
    simp only [ltCps, Bool.or_eq_true, decide_eq_true_eq, Bool.and_eq_true, beq_iff_eq] at h1 h2 ⊢
    rcases h1 with h1 | ⟨h1, h1'⟩ <;> rcases h2 with h2 | ⟨h2, h2'⟩
    · left; omega
    · left; omega
    · left; omega
    · right; exact ⟨by omega, ltc_trans h1' h2'⟩
theorem ltc_tot : ∀ a b : List Nat, a ≠ b → ltCps a b = true ∨ ltCps b a = true
  | [], [], h => absurd rfl h
  | [], _ :: _, _ => .inl rfl
  | _ :: _, [], _ => .inr rfl
  | a :: r, b :: t, h => by
    simp only [ltCps, Bool.or_eq_true, decide_eq_true_eq, Bool.and_eq_true, beq_iff_eq]
    rcases Nat.lt_trichotomy a b with q | q | q
    · exact .inl (.inl q)
    · subst q
      rcases ltc_tot r t (fun e => h (by rw [e])) with z | z
      · exact .inl (.inr ⟨rfl, z⟩)
      · exact .inr (.inr ⟨rfl, z⟩)
    · exact .inr (.inl q)
def Lt (a b : Str) : Prop := ltCps a.cps.toList b.cps.toList = true
theorem Lt.irr {a : Str} : ¬ Lt a a := fun h => by
  unfold Lt at h
  rw [ltc_irr] at h
  cases h
theorem Lt.trans {a b c : Str} (h : Lt a b) (k : Lt b c) : Lt a c := ltc_trans h k
theorem Str.ext_list {a b : Str} (h : a.cps.toList = b.cps.toList) : a = b := by
  cases a with | mk x => cases b with | mk y =>
    have : x = y := by rw [← Array.toArray_toList (xs := x), ← Array.toArray_toList (xs := y)]; exact congrArg List.toArray h
    rw [this]
theorem Lt.tot {a b : Str} (h : a ≠ b) : Lt a b ∨ Lt b a := ltc_tot _ _ fun e => h (Str.ext_list e)
/-- strictly rising -/
def Asc (l : List Str) : Prop := l.Pairwise Lt
theorem rising_asc : ∀ (l : List Str) (p : Str), risingS p l = true → (p :: l).Nodup → Asc (p :: l)
  | [], p, _, _ => List.pairwise_singleton _ _
  | x :: r, p, h, nd => by
    have h : (!ltCps x.cps.toList p.cps.toList && risingS x r) = true := h
    rw [Bool.and_eq_true] at h
    obtain ⟨h1, h2⟩ := h
    have nd2 : (x :: r).Nodup := (List.nodup_cons.mp nd).2
    have ih : Asc (x :: r) := rising_asc r x h2 nd2
    have hpx : Lt p x := by
      have hne : p ≠ x := fun e => (List.nodup_cons.mp nd).1 (by rw [e]; exact List.mem_cons_self)
      rcases Lt.tot hne with z | z
      · exact z
      · unfold Lt at z
        rw [z] at h1
        cases h1
    refine List.pairwise_cons.mpr ⟨fun y hy => ?_, ih⟩
    rcases List.mem_cons.mp hy with e | e
    · rw [e]; exact hpx
    · exact hpx.trans ((List.pairwise_cons.mp ih).1 y e)
theorem sorted_asc {l : List Str} (h : sortedS l = true) (nd : l.Nodup) : Asc l := by
  cases l with
  | nil => exact List.Pairwise.nil
  | cons x r => exact rising_asc r x h nd
theorem asc_unique : ∀ {l m : List Str}, Asc l → Asc m → (∀ x, x ∈ l ↔ x ∈ m) → l = m
  | [], [], _, _, _ => rfl
  | [], y :: m, _, _, h => absurd ((h y).mpr List.mem_cons_self) (by simp)
  | x :: l, [], _, _, h => absurd ((h x).mp List.mem_cons_self) (by simp)
  | x :: l, y :: m, hl, hm, h => by
    obtain ⟨l1, l2⟩ := List.pairwise_cons.mp hl
    obtain ⟨m1, m2⟩ := List.pairwise_cons.mp hm
    have e : x = y := by
      rcases List.mem_cons.mp ((h x).mp List.mem_cons_self) with e | e
      · exact e
      · rcases List.mem_cons.mp ((h y).mpr List.mem_cons_self) with f | f
        · exact f.symm
        · exact absurd ((m1 x e).trans (l1 y f)) Lt.irr
    subst e
    rw [asc_unique l2 m2 fun z => ?_]
    constructor
    · intro hz
      rcases List.mem_cons.mp ((h z).mp (List.mem_cons_of_mem _ hz)) with q | q
      · exact absurd (q ▸ l1 z hz) Lt.irr
      · exact q
    · intro hz
      rcases List.mem_cons.mp ((h z).mpr (List.mem_cons_of_mem _ hz)) with q | q
      · exact absurd (q ▸ m1 z hz) Lt.irr
      · exact q
/-! ### coefficients -/
abbrev Cf := List (Str × Int)
def lookO (kvs : Cf) (k : Str) : Option Int := (kvs.find? fun e => decide (e.1 = k)).map (·.2)
/-- the coefficient of a name, 0 where it is not there -/
def look (kvs : Cf) (k : Str) : Int := (lookO kvs k).getD 0
/-- as the pairs of a dict -/
def dk (kvs : Cf) : List (Key × V) := kvs.map fun e => (Sum.inr e.1, V.int e.2)
theorem lookO_cons (e : Str × Int) (r : Cf) (k : Str) : lookO (e :: r) k = if e.1 = k then some e.2 else lookO r k := by
  unfold lookO
  rw [List.find?_cons]
  by_cases h : e.1 = k <;> simp [h]
theorem valV_dk (k : Str) : ∀ kvs : Cf, valV (dk kvs) (Sum.inr k : Key) = (lookO kvs k).map V.int
  | [] => rfl
  | e :: r => by
    have ih := valV_dk k r
    rw [lookO_cons]
    by_cases h : e.1 = k
    · rw [if_pos h]
      show valV ((Sum.inr e.1, V.int e.2) :: dk r) _ = _
      rw [valV_pos (by rw [h])]
      rfl
    · rw [if_neg h]
      show valV ((Sum.inr e.1, V.int e.2) :: dk r) _ = _
      rw [valV_neg (fun q => h (Sum.inr.inj q))]
      exact ih
theorem lookO_mem : ∀ {kvs : Cf} {k : Str} {v : Int}, lookO kvs k = some v → (k, v) ∈ kvs
  | [], k, v, h => by cases h
  | e :: r, k, v, h => by
    rw [lookO_cons] at h
    by_cases q : e.1 = k
    · rw [if_pos q] at h
      cases h
      rw [← q]
      exact List.mem_cons_self
    · rw [if_neg q] at h
      exact List.mem_cons_of_mem _ (lookO_mem h)
theorem lookO_none : ∀ {kvs : Cf} {k : Str}, lookO kvs k = none ↔ k ∉ kvs.map (·.1)
  | [], k => by simp [lookO]
  | e :: r, k => by
    rw [lookO_cons, List.map_cons, List.mem_cons]
    by_cases q : e.1 = k
    · rw [if_pos q]
      constructor
      · intro h; cases h
      · intro h; exact absurd (Or.inl q.symm) h
    · rw [if_neg q, lookO_none]
      constructor
      · rintro h (z | z)
        · exact q z.symm
        · exact h z
      · intro h z; exact h (Or.inr z)
theorem lookO_of_mem : ∀ {kvs : Cf} {k : Str} {v : Int}, (kvs.map (·.1)).Nodup → (k, v) ∈ kvs → lookO kvs k = some v
  | [], k, v, _, h => by cases h
  | e :: r, k, v, nd, h => by
    rw [List.map_cons] at nd
    obtain ⟨n1, n2⟩ := List.nodup_cons.mp nd
    rw [lookO_cons]
    rcases List.mem_cons.mp h with q | q
    · rw [← q, if_pos rfl]
    · rw [if_neg (fun z => n1 (by rw [z]; exact List.mem_map.mpr ⟨_, q, rfl⟩)), lookO_of_mem n2 q]
theorem look_none {kvs : Cf} {k : Str} (h : k ∉ kvs.map (·.1)) : look kvs k = 0 := by
  unfold look
  rw [lookO_none.mpr h]
  rfl
theorem asc_nodup {l : List Str} (h : Asc l) : l.Nodup := List.Pairwise.imp (fun {a b} h e => by subst e; exact Lt.irr h) h
/-- the coefficients of a form: names strictly rising, none 0 -/
structure Can (cs : Cf) : Prop where
  asc : Asc (cs.map (·.1))
  nz : ∀ e ∈ cs, e.2 ≠ 0
theorem Can.nd {cs : Cf} (h : Can cs) : (cs.map (·.1)).Nodup := asc_nodup h.asc
theorem Can.mem_iff {cs : Cf} (h : Can cs) (k : Str) : k ∈ cs.map (·.1) ↔ look cs k ≠ 0 := by
  constructor
  · intro hk
    obtain ⟨e, he, rfl⟩ := List.mem_map.mp hk
    have : lookO cs e.1 = some e.2 := lookO_of_mem h.nd he
    unfold look
    rw [this]
    exact h.nz e he
  · intro hk
    cases Classical.em (k ∈ cs.map (·.1)) with
    | inl z => exact z
    | inr z => exact absurd (look_none z) hk
theorem Can.eq_map {cs : Cf} (h : Can cs) : cs = (cs.map (·.1)).map fun k => (k, look cs k) := by
  rw [List.map_map]
  conv => lhs; rw [← List.map_id cs]
  refine List.map_congr_left fun e he => ?_
  show e = (e.1, look cs e.1)
  unfold look
  rw [lookO_of_mem h.nd (k := e.1) (v := e.2) he]
  rfl
theorem Can.unique {cs ds : Cf} (h : Can cs) (k : Can ds) (e : ∀ x, look cs x = look ds x) : cs = ds := by
  have hm : cs.map (·.1) = ds.map (·.1) := asc_unique h.asc k.asc fun x => by rw [h.mem_iff, k.mem_iff, e]
  rw [h.eq_map, k.eq_map, hm]
  refine List.map_congr_left fun x _ => ?_
  rw [e]
/-- the names of ys whose coefficient is not 0 -/
def pick (g : Str → Int) (ys : List Str) : Cf := (ys.filter fun k => decide (g k ≠ 0)).map fun k => (k, g k)
theorem pick_names (g : Str → Int) (ys : List Str) : (pick g ys).map (·.1) = ys.filter fun k => decide (g k ≠ 0) := by
  unfold pick
  rw [List.map_map]
  exact List.map_id _
theorem pick_can {g : Str → Int} {ys : List Str} (h : Asc ys) : Can (pick g ys) := by
  refine ⟨?_, ?_⟩
  · rw [pick_names]
    exact List.Pairwise.filter _ h
  · intro e he
    unfold pick at he
    obtain ⟨k, hk, rfl⟩ := List.mem_map.mp he
    exact of_decide_eq_true (List.mem_filter.mp hk).2
theorem pick_look {g : Str → Int} {ys : List Str} (h : Asc ys) (hs : ∀ k, g k ≠ 0 → k ∈ ys) (k : Str) : look (pick g ys) k = g k := by
  cases Classical.em (g k = 0) with
  | inl z =>
    rw [z]
    refine look_none ?_
    rw [pick_names]
    intro m
    exact of_decide_eq_true (List.mem_filter.mp m).2 z
  | inr z =>
    have : lookO (pick g ys) k = some (g k) := lookO_of_mem (pick_can h).nd (List.mem_map.mpr ⟨k, List.mem_filter.mpr ⟨hs k z, decide_eq_true z⟩, rfl⟩)
    unfold look
    rw [this]
    rfl
theorem pick_snoc (g : Str → Int) (ys : List Str) (y : Str) : pick g (ys ++ [y]) = if g y ≠ 0 then pick g ys ++ [(y, g y)] else pick g ys := by
  unfold pick
  rw [List.filter_append]
  by_cases h : g y = 0
  · rw [if_neg (fun z => z h)]
    simp [h]
  · rw [if_pos h]
    simp [h]
theorem dk_snoc (cs : Cf) (k : Str) (v : Int) : dk (cs ++ [(k, v)]) = dk cs ++ [(Sum.inr k, V.int v)] := by
  unfold dk
  rw [List.map_append]
  rfl
theorem dk_put_new {cs : Cf} {k : Str} {v : Int} (h : k ∉ cs.map (·.1)) : putK (dk cs) (Sum.inr k : Key) (V.int v) = dk (cs ++ [(k, v)]) := by
  rw [putK_new _ (by rw [valV_dk, lookO_none.mpr h]; rfl), dk_snoc]
theorem dk_len (cs : Cf) : (dk cs).length = cs.length := List.length_map _
/-- d[k] = v -/
def putC (cs : Cf) (k : Str) (v : Int) : Cf := if k ∈ cs.map (·.1) then cs.map (fun e => if e.1 = k then (e.1, v) else e) else cs ++ [(k, v)]
theorem dk_put (cs : Cf) (k : Str) (v : Int) : putK (dk cs) (Sum.inr k : Key) (V.int v) = dk (putC cs k v) := by
  unfold putC
  by_cases h : k ∈ cs.map (·.1)
  · rw [if_pos h]
    unfold putK
    have ha : ((dk cs).any fun kv => decide (kv.1 = (Sum.inr k : Key))) = true := by
      obtain ⟨e, he, q⟩ := List.mem_map.mp h
      exact List.any_eq_true.mpr ⟨(Sum.inr e.1, V.int e.2), List.mem_map.mpr ⟨e, he, rfl⟩, decide_eq_true (by rw [← q])⟩
    rw [if_pos ha]
    unfold dk
    rw [List.map_map, List.map_map]
    refine List.map_congr_left fun e _ => ?_
    by_cases q : e.1 = k
    · simp [q]
    · have q' : ¬ (Sum.inr e.1 : Key) = Sum.inr k := fun z => q (Sum.inr.inj z)
      simp [q, q']
  · rw [if_neg h, dk_put_new h]
theorem putC_look (cs : Cf) (k : Str) (v : Int) (j : Str) : lookO (putC cs k v) j = if j = k then some v else lookO cs j := by
  have e1 := valV_dk j (putC cs k v)
  rw [← dk_put, valV_put, valV_dk] at e1
  by_cases h : j = k
  · rw [if_pos h]
    rw [if_pos (by rw [h])] at e1
    cases q : lookO (putC cs k v) j with
    | none => rw [q] at e1; cases e1
    | some z => rw [q] at e1; cases e1; rfl
  · rw [if_neg h]
    rw [if_neg (fun z => h (Sum.inr.inj z))] at e1
    cases q : lookO (putC cs k v) j with
    | none => rw [q] at e1; cases q2 : lookO cs j with
      | none => rfl
      | some z => rw [q2] at e1; cases e1
    | some z => rw [q] at e1; cases q2 : lookO cs j with
      | none => rw [q2] at e1; cases e1
      | some y => rw [q2] at e1; cases e1; rfl
theorem putC_names (cs : Cf) (k : Str) (v : Int) : (putC cs k v).map (·.1) = if k ∈ cs.map (·.1) then cs.map (·.1) else cs.map (·.1) ++ [k] := by
  unfold putC
  by_cases h : k ∈ cs.map (·.1)
  · rw [if_pos h, if_pos h, List.map_map]
    refine List.map_congr_left fun e _ => ?_
    show (if e.1 = k then (e.1, v) else e).1 = e.1
    split <;> rfl
  · rw [if_neg h, if_neg h, List.map_append]
    rfl
theorem putC_nd {cs : Cf} {k : Str} {v : Int} (h : (cs.map (·.1)).Nodup) : ((putC cs k v).map (·.1)).Nodup := by
  rw [putC_names]
  by_cases q : k ∈ cs.map (·.1)
  · rw [if_pos q]; exact h
  · rw [if_neg q]; exact nd_snoc h q
theorem putC_len (cs : Cf) (k : Str) (v : Int) : (putC cs k v).length ≤ cs.length + 1 := by
  have := congrArg List.length (putC_names cs k v)
  rw [List.length_map] at this
  rw [this]
  split
  · rw [List.length_map]; omega
  · rw [List.length_append, List.length_map]; exact Nat.le_refl _
theorem putC_mem {cs : Cf} {k : Str} {v : Int} {e : Str × Int} (h : e ∈ putC cs k v) : e = (k, v) ∨ e ∈ cs := by
  unfold putC at h
  by_cases q : k ∈ cs.map (·.1)
  · rw [if_pos q] at h
    obtain ⟨f, hf, rfl⟩ := List.mem_map.mp h
    by_cases z : f.1 = k
    · rw [if_pos z, z]; exact Or.inl rfl
    · rw [if_neg z]; exact Or.inr hf
  · rw [if_neg q] at h
    rcases List.mem_append.mp h with z | z
    · exact Or.inr z
    · exact Or.inl (List.mem_singleton.mp z)
end OS
namespace OS
open PySem L2
/-- a def of the module's, by its name -/
structure Df (K : PySem.W.Frag) (mg : Str → Option Value) (x : Str) (f : Addr) : Prop where
  mg : mg x = some (.ref f)
  kp : PySem.W.keepIn K (.ref f) = true
theorem StAt.upd {H : Hp} {st cl : Addr} {m : Nat} {D : Addr} {o : HO} (S : StAt H st cl m) (h1 : D ≠ st) (h2 : D ≠ cl) : StAt (upd H D o) st cl m := by
  obtain ⟨⟨p, c, a, b⟩, ⟨ns, e, l⟩, n⟩ := S
  exact ⟨⟨p, c, by rw [upd_ne h1.symm]; exact a, b⟩, ⟨ns, by rw [upd_ne h2.symm]; exact e, l⟩, n⟩
theorem StAt.nst {H : Hp} {st cl : Addr} {m : Nat} {D : Addr} (S : StAt H st cl m) (h : H D = none) : D ≠ st ∧ D ≠ cl := by
  obtain ⟨⟨p, c, a, b⟩, ⟨ns, e, l⟩, n⟩ := S
  exact ⟨(ne_of_none a h).symm, (ne_of_none e h).symm⟩
theorem StAt.same {H H' : Hp} {st cl : Addr} {m : Nat} (S : StAt H st cl m) (h : Same H H') : StAt H' st cl m := by
  obtain ⟨⟨p, c, a, b⟩, ⟨ns, e, l⟩, n⟩ := S
  exact ⟨⟨p, c, h _ _ a, b⟩, ⟨ns, h _ _ e, l⟩, n⟩
theorem sameUpd {H H' : Hp} {p : Addr} {o : HO} (s : Same H H') (h : H p = none) : Same H (L2.upd H' p o) := fun b u e => by
  rw [upd_ne (ne_of_none e h)]
  exact s b u e
end OS
namespace OS
open PySem L2
/-! ### numbers and terms as texts -/
def sg (n : Int) : Str := if n < 0 then " - " else " + "
def dec (n : Int) : Str := toString n
def aint (n : Int) : Int := if n < 0 then -n else n
def term (z : Str) (v : Int) : Str := sg v ++ (if aint v = 1 then z else dec (aint v) ++ (Str.ofString "*") ++ z)
theorem log2_lt {i : Int} (h : i.natAbs < 10 ^ 64) : i.natAbs.log2 < 1920 := by
  by_cases h0 : i.natAbs = 0
  · rw [h0]; decide
  · refine (Nat.log2_lt h0).mpr (Nat.lt_of_lt_of_le h ?_)
    decide +kernel
structure Pc (mg : Str → Option Value) : Prop where
  piece : ∃ t, mg "PIECE" = some (.int (10 ^ 64) t)
  str : mg "str" = none
  abs : mg "abs" = none
def spDec : Sp := fun vs H Q _ => ∃ n : Int, vs = [.int n] ∧ 0 ≤ n ∧ n < 10 ^ 64 ∧ ∀ H', Same H H' → Q (.str (dec n)) H'
def spSgn : Sp := fun vs H Q _ => ∃ (n : Int) (z : Str), vs = [.int n, .str z] ∧ z.length ≤ 1000 ∧ Q (.str (sg n ++ z)) H
def spTerm : Sp := fun vs H Q _ => ∃ (n : Int) (z : Str), vs = [.str z, .int n] ∧ z.length ≤ 10 ∧ aint n < 10 ^ 64 ∧ ∀ H', Same H H' → Q (.str (term z n)) H'
theorem Str.empty_app (z : Str) : Str.empty ++ z = z := Str.ext_list (by
  show (TL.tl (Str.empty ++ z)) = _
  rw [TL.tl_append]
  rfl)
theorem Str.app_assoc (a b c : Str) : (a ++ b) ++ c = a ++ (b ++ c) := Str.ext_list (by
  show (TL.tl ((a ++ b) ++ c)) = TL.tl (a ++ (b ++ c))
  rw [TL.tl_append, TL.tl_append, TL.tl_append, TL.tl_append, List.append_assoc])
theorem len_app (x y : Str) : (x ++ y).length = x.length + y.length := by
  have e : (TL.tl (x ++ y)).length = (TL.tl x).length + (TL.tl y).length := by rw [TL.tl_append, List.length_append]
  rw [Str.len_list, Str.len_list, Str.len_list]
  exact e
theorem sg_len (n : Int) : (sg n).length = 3 := by
  unfold sg
  split <;> decide +kernel
theorem numL_len {n : Nat} (h : n < 10 ^ 64) : (TL.numL n).length ≤ 64 := by
  unfold TL.numL
  rw [List.length_map]
  exact (Nat.length_toDigits_le_iff (by decide) (by decide)).mpr h
theorem dec_len {n : Int} (h0 : 0 ≤ n) (h : n < 10 ^ 64) : (dec n).length ≤ 64 := by
  obtain ⟨m, rfl⟩ : ∃ m : Nat, n = (m : Int) := ⟨n.toNat, by omega⟩
  have hm : m < 10 ^ 64 := by omega
  rw [Str.len_list]
  show (TL.tl (Str.ofString (toString ((m : Nat) : Int)))).length ≤ 64
  rw [TL.tl_num]
  exact numL_len hm
section
variable {P : Program} {w : World} {K : PySem.W.Frag} {mg : Str → Option Value} {base : Heap}
theorem scDec : FnScope ["number", "pieces", "piece"] ["number"] (defScope sDec) := ⟨rfl, rfl, rfl, by decide +kernel, rfl, by decide +kernel, by decide +kernel⟩
theorem ok_dec {f : Addr} {fd : FuncData} (F : Fun K "_decimal" "_decimal" sDec f fd) (T : Pc mg) : FnOk P w K mg base CX0 1 f fd ["number"] spDec := by
  obtain ⟨⟨t, mP⟩, mS, mA⟩ := T
  refine F.ok scDec (fun vs H Q E h => ?_) (fun cdv A outer s H vs Q E hr h => ?_)
  · obtain ⟨n, rfl, _⟩ := h
    rfl
  · obtain ⟨n, rfl, h0, h1, k⟩ := h
    refine ⟨_, pss_cons (ps_set (i := 1) scDec.nd rfl (Or.inl rfl) (pe_lst pa_nil))
      (pss_cons (ps_while PassesOwn.never (pt_cmpR op_ge (pv 0) (pe_gi rfl mP) (nomark _)) pss_never)
      (pss_cons (ps_expr (pe_bm PySem.F.plainAttrs_list PySem.F.slot_list_append PySem.F.type_list_append mt_append (pv 1) (pa_cons (pe_callTy call_str_int (by rfl) mS (by decide +kernel) (pa_cons (pv 0) pa_nil)) pa_nil)))
      (pss_one (ps_ret (pe_join pe_str (pe_revL (pv 1))))))), ?_⟩
    refine ⟨(by show 0 ≤ sizeLine; decide), fun p hp => ?_⟩
    refine while_by (fun σ H' => σ = [some (.int n), some (.ref p), none] ∧ H' = upd H p (.lst [])) (fun _ _ => 0) ⟨rfl, rfl⟩ ?_ (fun σ H Q Q' hq ⟨a, e, i, j, e1, e2, k2, e3, q⟩ => ⟨a, e, i, j, e1, e2, k2, e3, hq _ _ q⟩)
    rintro σ H' ⟨rfl, rfl⟩
    refine ⟨_, rfl, _, _, rfl, rfl, _, rfl, ?_⟩
    rw [decide_eq_false (by omega)]
    refine iteF ?_
    refine ⟨_, rfl, .inl ⟨rfl, _, SqL.of upd_same⟩, _, rfl, n, rfl, log2_lt (by omega), p, [], _, rfl, rfl, upd_same, (by show 0 < sizeLine; decide), ?_⟩
    refine ⟨⟨_, rfl⟩, _, rfl, p, [V.str (dec n)], rfl, SqL.of upd_same, fun q hq => ?_⟩
    refine ⟨_, q, [dec n], rfl, rfl, .inl (SqL.of upd_same), ?_, ?_⟩
    · have := dec_len h0 h1
      show ((dec n).length + 0) + 1 * (Str.ofString "").length ≤ _
      have e : (Str.ofString "").length = 0 := by decide +kernel
      omega
    · rw [TL.join_eq]
      refine k _ fun b o e => ?_
      have hb := ne_of_none e hp
      have : upd (upd H p (.lst [])) p (.lst ([] ++ [V.str (dec n)])) b = some o := by rw [upd_ne hb, upd_ne hb]; exact e
      rw [upd_ne (ne_of_none this hq)]
      exact this
theorem scSgn : FnScope ["number", "text"] ["number", "text"] (defScope sSgn) := ⟨rfl, rfl, rfl, by decide +kernel, rfl, by decide +kernel, by decide +kernel⟩
theorem ok_sgn {f : Addr} {fd : FuncData} (F : Fun K "_signed" "_signed" sSgn f fd) : FnOk P w K mg base CX0 1 f fd ["number", "text"] spSgn := by
  refine F.ok scSgn (fun vs H Q E h => ?_) (fun cdv A outer s H vs Q E hr h => ?_)
  · obtain ⟨n, z, rfl, _⟩ := h
    rfl
  · obtain ⟨n, z, rfl, hz, k⟩ := h
    refine ⟨_, pss_one (ps_ret (pe_ifExp (pt_cmpR op_lt (pv 0) pe_int (nomark _)) (pe_joined (.cons pe_str (.cons (pe_fmt (pv 1)) .nil))) (pe_joined (.cons pe_str (.cons (pe_fmt (pv 1)) .nil))))), ?_⟩
    have hs : z.length ≤ sizeLine := Nat.le_of_lt (small1000 hz)
    refine ⟨_, rfl, _, _, rfl, rfl, _, rfl, ?_⟩
    have hl3 : (sg n ++ z).length ≤ sizeLine := by rw [len_app, sg_len]; exact Nat.le_trans (by omega : 3 + z.length ≤ 1003) (by decide)
    have h3 : (sg n).length ≤ sizeLine := by rw [sg_len]; decide
    unfold sg at k hl3 h3
    by_cases hn : n < 0
    · rw [decide_eq_true hn]
      refine iteT ?_
      rw [if_pos hn] at k hl3 h3
      refine ⟨_, rfl, by rw [Str.empty_app]; exact h3, ?_⟩
      refine ⟨_, rfl, .inl ⟨z, rfl, hs, z, rfl, ?_, ?_⟩⟩
      · rw [Str.empty_app]; exact hl3
      · rw [Str.empty_app]; exact k
    · rw [decide_eq_false hn]
      refine iteF ?_
      rw [if_neg hn] at k hl3 h3
      refine ⟨_, rfl, by rw [Str.empty_app]; exact h3, ?_⟩
      refine ⟨_, rfl, .inl ⟨z, rfl, hs, z, rfl, ?_, ?_⟩⟩
      · rw [Str.empty_app]; exact hl3
      · rw [Str.empty_app]; exact k
theorem scTerm : FnScope ["name", "coefficient"] ["name", "coefficient"] (defScope sTerm) := ⟨rfl, rfl, rfl, by decide +kernel, rfl, by decide +kernel, by decide +kernel⟩
theorem ok_term {f fS fD : Addr} {fd dS dD : FuncData} (F : Fun K "_term" "_term" sTerm f fd) (T : Pc mg) (ES : FnOk P w K mg base CX0 1 fS dS ["number", "text"] spSgn) (GS : Df K mg "_signed" fS) (bS : Binds K dS ["number", "text"] [])
    (ED : FnOk P w K mg base CX0 1 fD dD ["number"] spDec) (GD : Df K mg "_decimal" fD) (bD : Binds K dD ["number"] []) : FnOk P w K mg base CX0 2 f fd ["name", "coefficient"] spTerm := by
  refine F.ok scTerm (fun vs H Q E h => ?_) (fun cdv A outer s H vs Q E hr h => ?_)
  · obtain ⟨n, z, rfl, _⟩ := h
    rfl
  · obtain ⟨n, z, rfl, hz, hn, k⟩ := h
    refine ⟨_, pss_cons (ps_if (pt_cmpR op_eq (pe_callB call_abs (by rfl) T.abs (by decide +kernel) (pa_cons (pv 1) pa_nil)) pe_int (nomark _)) (pss_one (ps_ret (pe_call ES hr rfl GS.mg GS.kp bS .nil pass0 (pa_cons (pv 1) (pa_cons (pv 0) pa_nil))))) pss_nil)
      (pss_one (ps_ret (pe_call ES hr rfl GS.mg GS.kp bS .nil pass0 (pa_cons (pv 1) (pa_cons
        (pe_joined (.cons (pe_fmt (pe_call ED hr rfl GD.mg GD.kp bD .nil pass0 (pa_cons (pe_callB call_abs (by rfl) T.abs (by decide +kernel) (pa_cons (pv 1) pa_nil)) pa_nil))) (.cons pe_str (.cons (pe_fmt (pv 0)) .nil)))) pa_nil))))), ?_⟩
    have ha0 : 0 ≤ aint n := by unfold aint; split <;> omega
    refine ⟨_, rfl, _, rfl, rfl, _, rfl, ?_⟩
    show if decide (V.int (aint n) = V.int 1) = true then _ else _
    refine ite2 (fun h1 => ?_) (fun h1 => ?_)
    · have h1' : aint n = 1 := V.int.inj (of_decide_eq_true h1)
      refine ⟨_, rfl, _, rfl, n, z, rfl, by omega, ?_⟩
      have := k H (Same.refl H)
      unfold term at this
      rw [if_pos h1'] at this
      exact this
    · have h1' : ¬ aint n = 1 := fun e => h1 (decide_eq_true (congrArg V.int e))
      refine ⟨_, rfl, _, rfl, _, rfl, aint n, rfl, ha0, hn, fun H2 s2 => ?_⟩
      have hd := dec_len ha0 hn
      have hs1 : (dec (aint n)).length ≤ sizeLine := Nat.le_of_lt (small1000 (by omega))
      have h1s : (Str.ofString "*").length = 1 := by decide +kernel
      refine .inl ⟨_, rfl, hs1, _, rfl, ?_, _, rfl, ?_, _, rfl, .inl ⟨z, rfl, Nat.le_of_lt (small1000 (by omega)), _, rfl, ?_, ?_⟩⟩
      · rw [Str.empty_app]; exact hs1
      · rw [Str.empty_app, len_app, h1s]; exact Nat.le_of_lt (small1000 (by omega))
      · rw [Str.empty_app, len_app, len_app, h1s]; exact Nat.le_of_lt (small1000 (by omega))
      · rw [Str.empty_app]
        refine ⟨n, _, rfl, ?_, ?_⟩
        · rw [len_app, len_app, h1s]; omega
        · have := k H2 s2
          unfold term at this
          rw [if_neg h1'] at this
          exact this
end
end OS
namespace OS
open PySem L2
/-- a dict comprehension over anything walked -/
theorem dc_it {J : It} {n : Nat} {G : Hp → Prop} {Y : Nat → Hp → V → Hp → Prop} (w : Walk J n G Y) {g : TG} {tt : TT} {tk tv : TE} {vs : List Nat} {σ : L2.St} {H1 : Hp} {D : Addr} {Qd : Hp → Prop} (Pv : Nat → Hp → Prop) (h0 : Pv 0 (upd H1 D (.dK []))) (hG : ∀ i H, i ≤ n → Pv i H → G H)
    (hs : ∀ i x H H', i < n → Pv i H → Y i H x H' → g x (wipe σ vs) H' fun σ2 H2 => wipe σ2 vs = wipe σ vs ∧ tt σ2 H2 fun b H3 =>
      if b = true then tk σ2 H3 fun y H4 => tv σ2 H4 fun z H5 => ∃ kvs k, y = kV k ∧ H5 D = some (.dK kvs) ∧ kvs.length < sizeLine ∧ Pv (i + 1) (upd H5 D (.dK (putK kvs k z))) else Pv (i + 1) H3) (hd : ∀ H, Pv n H → Qd H) :
    ∃ W : Nat → Nat → Hp → Prop, (∃ m, W 0 m (upd H1 D (.dK []))) ∧ ∀ i m H, W i m H →
      (J.stop i H ∧ Qd H) ∨ (J.go i H ∧ ∃ Nx : Hp → Prop, (∀ H', Nx H' → ∃ m', m' < m ∧ W (i + 1) m' H') ∧ ∀ x H', J.yld i H x H' → g x (wipe σ vs) H' fun σ2 H2 => wipe σ2 vs = wipe σ vs ∧ tt σ2 H2 fun b H3 =>
        if b = true then tk σ2 H3 fun y H4 => tv σ2 H4 fun z H5 => ∃ kvs k, y = kV k ∧ H5 D = some (.dK kvs) ∧ kvs.length < sizeLine ∧ Nx (upd H5 D (.dK (putK kvs k z))) else Nx H3) := by
  refine ⟨fun i m H => m = n - i ∧ i ≤ n ∧ Pv i H, ⟨n, by simp, Nat.zero_le _, h0⟩, ?_⟩
  rintro i m H ⟨rfl, hi, p⟩
  have q := hG i H hi p
  by_cases hlt : i < n
  · refine .inr ⟨w.goes i H hlt q, Pv (i + 1), fun H' p' => ⟨n - (i + 1), by omega, rfl, hlt, p'⟩, fun x H' y => ?_⟩
    exact hs i x H H' hlt p (w.yields i H x H' hlt q y)
  · have e : i = n := by omega
    subst e
    exact .inl ⟨w.stops H q, hd H p⟩
theorem FunD.ok0 {P : Program} {w : World} {K : PySem.W.Frag} {mg : Str → Option Value} {base : Heap} {x qual : Str} {params : Arguments} {body : List Stmt} {scope : Scope} {dvs : List V} {kws : List (Str × V)} {f : Addr} {fd : FuncData} {N ps : List Str} {k : Nat} {sp : Sp}
    (F : FunD K x qual params body scope dvs kws f fd) (S : FnScope N ps scope) (len : ∀ vs H Q E, sp vs H Q E → vs.length = ps.length)
    (hbody : ∀ (cdv : Value) (A : Around) (outer : List Env) (s : Shared) (H : Hp) (vs : List V) (Q : VK) (E : XK), Room k (A.deeper (PyProof.Rows.envOfC qual scope s.heap.objs.size f cdv)) → sp vs H Q E →
      ∃ t, PSs (cxOf CX0 P w K mg base N qual scope f cdv A outer s H E).nox body t ∧ t { nx := fun _ H' => Q .non H', rt := Q } (L2.start N vs) H) : FnOk P w K mg base CX0 (k + 1) f fd ps sp := by
  refine F.ok S len fun cdv A outer s H vs Q E hr h => ?_
  obtain ⟨t, h, q⟩ := hbody cdv A outer s H vs Q E hr h
  exact ⟨t, h.nox, q⟩
/-! ### a form as it stands -/
theorem kcc : ¬ (("_coefficients" : Str) = "_constant") := by decide +kernel
def ffl (d : Addr) (c : Int) : List (Str × V) := putF "_constant" (.int c) (putF "_coefficients" (.ref d) [])
theorem ffl_cf (d : Addr) (c : Int) : (ffl d c).lookup ("_coefficients" : Str) = some (.ref d) := by
  unfold ffl
  rw [lookup_putF, if_neg kcc, lookup_putF, if_pos rfl]
theorem ffl_ct (d : Addr) (c : Int) : (ffl d c).lookup ("_constant" : Str) = some (.int c) := by
  unfold ffl
  rw [lookup_putF, if_pos rfl]
theorem ffl_no (d : Addr) (c : Int) {m : Str} (h1 : ¬ m = "_constant") (h2 : ¬ m = "_coefficients") : (ffl d c).lookup m = none := by
  unfold ffl
  rw [lookup_putF, if_neg h1, lookup_putF, if_neg h2]
  rfl
/-- at p stands the form with the coefficients cs (names rising, none 0) and the constant c -/
structure FormAt (C : Addr) (H : Hp) (p : Addr) (cs : Cf) (c : Int) : Prop where
  ob : ∃ d dx, H p = some (.ins C dx (ffl d c)) ∧ H d = some (.dK (dk cs))
  can : Can cs
  len : cs.length < 64
  gd : ∀ e ∈ cs, good e.1 = true
theorem FormAt.same {C : Addr} {H H' : Hp} {p : Addr} {cs : Cf} {c : Int} (F : FormAt C H p cs c) (s : Same H H') : FormAt C H' p cs c := by
  obtain ⟨⟨d, dx, a, b⟩, k, l, g⟩ := F
  exact ⟨⟨d, dx, s _ _ a, s _ _ b⟩, k, l, g⟩
theorem FormAt.kb {C : Addr} {H H' : Hp} {p st cl : Addr} {cs : Cf} {c : Int} {m : Nat} (F : FormAt C H p cs c) (S : StAt H st cl m) (s : Kb st cl H H') : FormAt C H' p cs c := by
  obtain ⟨⟨d, dx, a, b⟩, k, l, g⟩ := F
  obtain ⟨⟨q, c', e1, _⟩, ⟨ns, e2, _⟩, _⟩ := S
  exact ⟨⟨d, dx, s _ _ a (ne_of a e1 (by intro z; cases z)) (ne_of a e2 (by intro z; cases z)), s _ _ b (ne_of b e1 (by intro z; cases z)) (ne_of b e2 (by intro z; cases z))⟩, k, l, g⟩
theorem good_len {z : Str} (h : good z = true) : z.length ≤ 6 ∧ 1 ≤ z.length := by
  unfold good at h
  have := Str.len_list z
  by_cases h1 : z = "mod"
  · rw [if_pos h1] at h; cases h
  · rw [if_neg h1] at h
    by_cases h2 : z.cps.toList.length < 1 ∨ 6 < z.cps.toList.length
    · rw [if_pos h2] at h; cases h
    · omega
structure FTx (K : PySem.W.Frag) (mg : Str → Option Value) (C : Addr) : Prop where
  cl : Cls K C
  nF : NoAttr K C "_coefficients"
  nT : NoAttr K C "_constant"
  srt : mg "sorted" = none
/-- Form.__init__(self, coefficients, constant), all keys names -/
def spInit (C : Addr) : Sp := fun vs H Q _ => ∃ (p dx d : Addr) (kvs : Cf) (c : Int), vs = [.ref p, .ref d, .int c] ∧ H p = some (.ins C dx []) ∧ H d = some (.dK (dk kvs)) ∧ (kvs.map (·.1)).Nodup ∧ kvs.length < 64 ∧ (∀ e ∈ kvs, good e.1 = true) ∧
  ∀ (cs : Cf) (H' : Hp), (∀ k, look cs k = look kvs k) → FormAt C H' p cs c → (∃ d' dx', H' p = some (.ins C dx' (ffl d' c)) ∧ H' d' = some (.dK (dk cs)) ∧ H d' = none) → (∀ b o, H b = some o → b ≠ p → H' b = some o) → Q .non H'
section
variable {P : Program} {w : World} {K : PySem.W.Frag} {mg : Str → Option Value} {base : Heap}
abbrev nInit : List Str := ["self", "coefficients", "constant", "name", "names"]
theorem scInit : FnScope nInit ["self", "coefficients", "constant"] (defScope sForm_init) := ⟨rfl, rfl, rfl, by decide +kernel, rfl, by decide +kernel, by decide +kernel⟩
theorem ok_init {f fV C : Addr} {fd dV : FuncData} {dvs : List V} (F : FunD K "__init__" "Form.__init__" (defArgs sForm_init) (defBody sForm_init) (defScope sForm_init) dvs [] f fd) (T : FTx K mg C)
    (EV : FnOk P w K mg base CX0 1 fV dV ["text"] spValid) (GV : Df K mg "valid_name" fV) (bV : Binds K dV ["text"] []) : FnOk P w K mg base CX0 2 f fd ["self", "coefficients", "constant"] (spInit C) := by
  refine FunD.ok0 F scInit (fun vs H Q E h => ?_) (fun cdv A outer s H vs Q E hr h => ?_)
  · obtain ⟨p, dx, d, kvs, c, rfl, _⟩ := h
    rfl
  · obtain ⟨p, dx, d, kvs, c, rfl, hp, hd, nd, hlen, hgd, k⟩ := h
    have hu := hu_of hr
    refine ⟨_, pss_cons (ps_lock (ps_for PassesOwn.never rfl (pi_keys (pv 1)) (pg_name (i := 3) scInit.nd rfl (Or.inl rfl)) (pss_one (ps_if (pt_not (pt_val (pe_call EV hr rfl GV.mg GV.kp bV .nil pass0 (pa_cons (pv 3) pa_nil)))) pss_never pss_nil))))
      (pss_cons (ps_set (i := 4) scInit.nd rfl (Or.inl rfl) (pe_callB (call_sortedD rfl) (by rfl) T.srt (by decide +kernel) (pa_cons (pv 1) pa_nil)))
      (pss_cons (ps_fld (pv 0) (pe_dc (own := [("name", 3)]) (g := gName 3) rfl scInit.nd (pi_list (pv 4)) (blkOk_by (own := [("name", 3)]) (N := nInit) (sc := defScope sForm_init) (by decide +kernel))
          (fun _ _ _ _ _ => pg_name (i := 3) scInit.nd rfl (Or.inl rfl)) (fun _ _ _ _ _ => pts_one (pt_cmpR op_ne (pe_dget hu (pv 1) (pv 3) (fun _ _ => rfl)) pe_int (nomark _))) (fun _ _ _ _ _ => pv 3) (fun _ _ _ _ _ => pe_dget hu (pv 1) (pv 3) (fun _ _ => rfl))) rfl)
      (pss_one (ps_fld (pv 0) (pv 2) rfl)))), ?_⟩
    have npd : p ≠ d := ne_of hp hd (by intro z; cases z)
    refine ⟨d, _, hd, trivial, fun od => ?_⟩
    refine ⟨_, rfl, d, od, rfl, .inl ⟨_, upd_same, ?_⟩⟩
    refine for_it walk_keys (fun i σ H' => (∃ v, σ = [some (.ref p), some (.ref d), some (.int c), v, none]) ∧ Same (upd H d (.frz od (.dK (dk kvs)))) H') ⟨⟨none, rfl⟩, Same.refl _⟩ (fun i σ H' _ h => h.2 _ _ upd_same) ?_ ?_
    · rintro i x σ H1 H2 hi ⟨⟨v, rfl⟩, s1⟩ ⟨rfl, k', v', hkv, rfl⟩
      rw [dk_len] at hi
      have he : (dk kvs)[i]? = some (Sum.inr (kvs[i]).1, V.int (kvs[i]).2) := by
        unfold dk
        rw [List.getElem?_map, List.getElem?_eq_getElem hi]
        rfl
      rw [he] at hkv
      cases hkv
      have hg : good (kvs[i]).1 = true := hgd _ (List.getElem_mem hi)
      refine ⟨_, rfl, _, rfl, by have := (good_len hg).1; omega, fun H3 s3 => ?_⟩
      refine ⟨_, rfl, ?_⟩
      rw [hg]
      refine iteF ?_
      exact ⟨⟨_, rfl⟩, s1.trans s3⟩
    · rintro σ H1 ⟨⟨v, rfl⟩, s1⟩
      refine ⟨s1 _ _ upd_same, ?_⟩
      obtain ⟨H2, hH2⟩ : ∃ H2, H2 = upd H1 d (.dK (dk kvs)) := ⟨_, rfl⟩
      have s2 : Same H H2 := by
        intro b o e
        rw [hH2]
        by_cases hb : b = d
        · subst hb
          rw [upd_same, ← hd, e]
        · rw [upd_ne hb]
          exact s1 b o (by rw [upd_ne hb]; exact e)
      rw [← hH2]
      have hd2 := s2 _ _ hd
      refine ⟨_, rfl, d, dk kvs, kvs.map (·.1), rfl, Rd.of hd2, ?_, by rw [List.length_map]; exact hlen, fun ys l perm srt hl => ?_⟩
      · unfold dk
        rw [List.map_map, List.map_map]
        rfl
      have ynd : ys.Nodup := perm.nodup_iff.mpr nd
      have yasc : Asc ys := sorted_asc srt ynd
      have ylen : ys.length < 64 := by rw [perm.length_eq, List.length_map]; exact hlen
      have nld : l ≠ d := (ne_of_none hd2 hl).symm
      have npl : p ≠ l := ne_of_none (s2 _ _ hp) hl
      refine ⟨_, rfl, l, rfl, ⟨_, SqL.of upd_same⟩, fun D hD => ?_⟩
      obtain ⟨H3, hH3⟩ : ∃ H3, H3 = upd H2 l (.lst (ys.map V.str)) := ⟨_, rfl⟩
      rw [← hH3] at hD
      have s3 : Same H H3 := by
        intro b o e
        rw [hH3, upd_ne (ne_of_none (s2 b o e) hl)]
        exact s2 b o e
      have hl3 : H3 l = some (.lst (ys.map V.str)) := by rw [hH3]; exact upd_same
      rw [← hH3]
      have hlook : ∀ y ∈ ys, lookO kvs y = some (look kvs y) := by
        intro y hy
        have : y ∈ kvs.map (·.1) := perm.mem_iff.mp hy
        cases q : lookO kvs y with
        | none => exact absurd this (lookO_none.mp q)
        | some z => unfold look; rw [q]; rfl
      refine dc_it (walk_list (K := K) (a := l) (xs := ys.map V.str)) (fun i H' => Same H3 H' ∧ H' D = some (.dK (dk (pick (look kvs) (ys.take i))))) ⟨?_, ?_⟩ (fun i H' _ h => SqL.of (h.1 _ _ hl3)) ?_ ?_
      · intro b o e
        rw [upd_ne (ne_of_none e hD)]
        exact e
      · rw [upd_same]
        rfl
      · rintro i x H4 H5 hi ⟨s4, s5⟩ ⟨rfl, hx⟩
        rw [List.length_map] at hi
        have hyi : ys[i]? = some ys[i] := List.getElem?_eq_getElem hi
        rw [List.getElem?_map, hyi] at hx
        obtain rfl : V.str ys[i] = x := Option.some.inj hx
        have hmem : ys[i] ∈ ys := List.getElem_mem hi
        have hnew : ys[i] ∉ (pick (look kvs) (ys.take i)).map (·.1) := by
          rw [pick_names]
          intro m
          have m1 := (List.mem_filter.mp m).1
          have tk : ys.take (i + 1) = ys.take i ++ [ys[i]] := by rw [List.take_succ, hyi]; rfl
          have nd2 : (ys.take (i + 1)).Nodup := List.Sublist.nodup (List.take_sublist _ _) ynd
          rw [tk] at nd2
          exact (List.nodup_append.mp nd2).2.2 _ m1 _ (List.mem_singleton.mpr rfl) rfl
        have hd5 : H5 d = some (.dK (dk kvs)) := s4 _ _ (s3 _ _ hd)
        have hv : valV (dk kvs) (Sum.inr ys[i] : Key) = some (V.int (look kvs ys[i])) := by rw [valV_dk, hlook _ hmem]; rfl
        have hget : DGet H5 d (V.str ys[i]) (some (V.int (look kvs ys[i]))) := by rw [← hv]; exact DGet.k (k := Sum.inr ys[i]) hd5
        have htk : ys.take (i + 1) = ys.take i ++ [ys[i]] := by rw [List.take_succ, hyi]; rfl
        refine ⟨rfl, ?_⟩
        refine ⟨_, rfl, _, rfl, d, _, rfl, hget, rfl, _, rfl, ?_⟩
        by_cases hz : look kvs ys[i] = 0
        · rw [show (!decide (V.int (look kvs ys[i]) = V.int 0)) = false by rw [hz]; simp]
          refine iteF ?_
          refine ⟨s4, ?_⟩
          rw [htk, pick_snoc, if_neg (fun z => z hz)]
          exact s5
        · rw [show (!decide (V.int (look kvs ys[i]) = V.int 0)) = true by rw [decide_eq_false (fun z => hz (V.int.inj z))]; rfl]
          refine iteT ?_
          refine ⟨_, rfl, _, rfl, _, rfl, d, _, rfl, hget, _, Sum.inr ys[i], rfl, s5, ?_, ?_, ?_⟩
          · rw [dk_len]
            have h1 : (pick (look kvs) (ys.take i)).length ≤ ys.length := by
              unfold pick
              rw [List.length_map]
              exact Nat.le_trans (List.length_filter_le _ _) (by rw [List.length_take]; exact Nat.min_le_right _ _)
            exact small1000 (by omega)
          · intro b o e
            rw [upd_ne (ne_of_none e hD)]
            exact s4 b o e
          · rw [upd_same, dk_put_new hnew, htk, pick_snoc, if_pos hz]
      · rintro H4 ⟨s4, s5⟩
        rw [List.length_map, List.take_length] at s5
        have hp4 : H4 p = some (.ins C dx []) := s4 _ _ (s3 _ _ hp)
        have npD : p ≠ D := ne_of_none (s3 _ _ hp) hD
        refine ⟨_, rfl, p, C, dx, _, rfl, hp4, T.cl, T.nF, (by show 0 < 1000; decide), ?_⟩
        refine ⟨_, rfl, _, rfl, p, C, dx, _, rfl, upd_same, T.cl, T.nT, (by show 1 < 1000; decide), ?_⟩
        have hpk : ∀ q, look (pick (look kvs) ys) q = look kvs q := pick_look yasc fun q hq => perm.mem_iff.mpr (by
          cases Classical.em (q ∈ kvs.map (·.1)) with
          | inl z => exact z
          | inr z => exact absurd (look_none z) hq)
        have hDf : (L2.upd (L2.upd H4 p (.ins C dx (putF "_coefficients" (.ref D) []))) p (.ins C dx (ffl D c))) D = some (.dK (dk (pick (look kvs) ys))) := by
          rw [upd_ne npD.symm, upd_ne npD.symm]
          exact s5
        refine k (pick (look kvs) ys) _ hpk ⟨⟨D, dx, upd_same, ?_⟩, pick_can yasc, ?_, ?_⟩ ⟨D, dx, upd_same, hDf, s3.free hD⟩ ?_
        · rw [upd_ne npD.symm, upd_ne npD.symm]
          exact s5
        · have h1 : (pick (look kvs) ys).length ≤ ys.length := by
            unfold pick
            rw [List.length_map]
            exact List.length_filter_le _ _
          omega
        · intro e he
          have hm : e.1 ∈ ys := by
            have : e.1 ∈ (pick (look kvs) ys).map (·.1) := List.mem_map.mpr ⟨e, he, rfl⟩
            rw [pick_names] at this
            exact (List.mem_filter.mp this).1
          obtain ⟨e', he', q⟩ := List.mem_map.mp (perm.mem_iff.mp hm)
          rw [← q]
          exact hgd e' he'
        · intro b o e hb
          rw [upd_ne hb, upd_ne hb]
          exact s4 _ _ (s3 _ _ e)
end
end OS
namespace OS
open PySem L2
/-! ### an own error with one field -/
/-- what the head knows of the class of an error at C, its __init__ at fI -/
structure ErrC (K : PySem.W.Frag) (mg : Str → Option Value) (x : Str) (C fI : Addr) (fld : Str) : Prop where
  mg : mg x = some (.ref C)
  ox : OexC K C
  iC : PySem.W.findIn K (.ref C) "__init__" = some (some (.ref fI))
  tI : PySem.W.typeIn K (.ref fI) = some (.type "function")
  no : PySem.W.findIn K (.ref C) fld = some none
  xf : XfC K C
  te : PySem.W.exmOne K (.ref C) (.ref C) = some true
/-- its __init__(self, y) -/
def spE (K : PySem.W.Frag) (C : Addr) (fld : Str) : Sp := fun vs H Q _ => ∃ (a : Addr) (y : V), vs = [.ref a, y] ∧ H a = some (exo a C none) ∧
  ∀ dx, H dx = none → dx ≠ a → Q .non (L2.upd (L2.upd H dx (exd dx [(fld, y)])) a (exo a C (some dx)))
/-- a made error's end: the heap has got its dict and nothing else -/
theorem made_heap {H : Hp} {a d : Addr} {fs : List (Str × V)} {o1 o2 : HO} (na : H a = none) (hd : d ≠ a) : ∀ b, (L2.upd (L2.del (L2.upd (L2.upd (L2.upd H a o1) d (exd d fs)) a o2) a) d (.xd fs)) b = (L2.upd H d (.xd fs)) b := by
  intro b
  by_cases h1 : b = d
  · rw [h1, upd_same, upd_same]
  · rw [upd_ne h1, upd_ne h1]
    by_cases h2 : b = a
    · rw [h2, del_same, na]
    · rw [del_ne h2, upd_ne h2, upd_ne h1, upd_ne h2]
end OS
namespace OS
open PySem L2
section
variable {P : Program} {w : World} {K : PySem.W.Frag} {mg : Str → Option Value} {base : Heap}
theorem scUN : FnScope ["self", "name"] ["self", "name"] (defScope sUnknownName_init) := ⟨rfl, rfl, rfl, by decide +kernel, rfl, by decide +kernel, by decide +kernel⟩
theorem ok_un {f fI C : Addr} {fd : FuncData} (F : Fun K "__init__" "UnknownName.__init__" sUnknownName_init f fd) (T : ErrC K mg "UnknownName" C fI "name") : FnOk P w K mg base CX0 1 f fd ["self", "name"] (spE K C "name") := by
  refine F.ok scUN (fun vs H Q E h => ?_) (fun cdv A outer s H vs Q E hr h => ?_)
  · obtain ⟨a, y, rfl, _⟩ := h
    rfl
  · obtain ⟨a, y, rfl, ha, k⟩ := h
    refine ⟨_, pss_one (ps_ost (pv 0) (pv 1)), ?_⟩
    exact ⟨_, rfl, _, rfl, a, C, rfl, T.ox, T.no, .inl ⟨ha, fun dx n ne => k dx n ne⟩⟩
end
end OS
namespace OS
open PySem L2
/-- a form whose dict may stand still (behind an error that left a walk over it) -/
structure FormR (C : Addr) (H : Hp) (p d : Addr) (cs : Cf) (c : Int) : Prop where
  ob : ∃ dx, H p = some (.ins C dx (ffl d c))
  dc : Rd H d (.dK (dk cs))
  can : Can cs
  len : cs.length < 64
/-- but for d all as it was; what stood at d is to be read there -/
structure Sd (d : Addr) (H H' : Hp) : Prop where
  keep : ∀ b o, H b = some o → b ≠ d → H' b = some o
  rd : ∀ kvs : List (Key × V), Rd H d (.dK kvs) → Rd H' d (.dK kvs)
theorem Sd.refl (d : Addr) (H : Hp) : Sd d H H := ⟨fun _ _ e _ => e, fun _ r => r⟩
theorem Sd.trans {d : Addr} {H H1 H2 : Hp} (a : Sd d H H1) (b : Sd d H1 H2) : Sd d H H2 := ⟨fun x o e n => b.keep x o (a.keep x o e n) n, fun u r => b.rd u (a.rd u r)⟩
theorem Sd.of {d : Addr} {H H' : Hp} (s : Same H H') : Sd d H H' := ⟨fun b o e _ => s b o e, fun u r => r.elim (fun r => .inl (s _ _ r)) fun ⟨o, r⟩ => .inr ⟨o, s _ _ r⟩⟩
theorem FormR.sd {C : Addr} {H H' : Hp} {p d : Addr} {cs : Cf} {c : Int} (F : FormR C H p d cs c) (s : Sd d H H') : FormR C H' p d cs c := by
  obtain ⟨⟨dx, a⟩, b, k, l⟩ := F
  have npd : p ≠ d := by
    intro e
    subst e
    rcases b with b | ⟨o, b⟩ <;> (rw [a] at b; cases b)
  exact ⟨⟨dx, s.keep _ _ a npd⟩, s.rd _ b, k, l⟩
/-- the first name that lacks -/
def lacks (cs : Cf) (ws : Cf) : Option Str := (cs.map (·.1)).find? fun n => decide (lookO ws n = none)
/-- the sum of the products -/
def prods (cs : Cf) (ws : Cf) : Int := (cs.map fun e => e.2 * look ws e.1).sum
theorem lacks_snoc_none {cs ws : Cf} {e : Str × Int} : lacks (cs ++ [e]) ws = (lacks cs ws).or (if lookO ws e.1 = none then some e.1 else none) := by
  unfold lacks
  rw [List.map_append, List.find?_append]
  congr 1
  show List.find? _ [e.1] = _
  rw [List.find?_cons]
  by_cases h : lookO ws e.1 = none
  · rw [if_pos h]; simp [h]
  · rw [if_neg h]; simp [h]
theorem prods_snoc {cs ws : Cf} {e : Str × Int} : prods (cs ++ [e]) ws = prods cs ws + e.2 * look ws e.1 := by
  unfold prods
  rw [List.map_append, List.sum_append]
  simp
def Mid (n : Int) : Prop := n.natAbs < 2 ^ 200
/-- form(values) -/
def spCall (C CU : Addr) : Sp := fun vs H Q E => ∃ (p d dv : Addr) (cs ws : Cf) (c : Int), vs = [.ref p, .ref dv] ∧ FormR C H p d cs c ∧ H dv = some (.dK (dk ws)) ∧ dv ≠ d ∧ (∀ e ∈ cs, Mid e.2) ∧ (∀ x, Mid (look ws x)) ∧
  (lacks cs ws = none → ∀ H', Sd d H H' → Q (.int (c + prods cs ws)) H') ∧
  (∀ n, lacks cs ws = some n → ∀ (dd : Addr) (H' : Hp), H dd = none → H' dd = some (.xd [("name", .str n)]) → Sd d H H' → E (.ref CU) (some dd) H')
section
variable {P : Program} {w : World} {K : PySem.W.Frag} {mg : Str → Option Value} {base : Heap}
abbrev nCall : List Str := ["self", "values", "total", "name", "coefficient"]
theorem scCall : FnScope nCall ["self", "values"] (defScope sForm_call) := ⟨rfl, rfl, rfl, by decide +kernel, rfl, by decide +kernel, by decide +kernel⟩
/-- the loop over the coefficients, the dict standing still: what it asks and gives -/
theorem call_turn {cs ws : Cf} {i : Nat} (hi : i < cs.length) : cs.take (i + 1) = cs.take i ++ [cs[i]] := by rw [List.take_succ, List.getElem?_eq_getElem hi]; rfl
theorem lacks_mono : ∀ {cs ws : Cf} {n : Str} (i : Nat), lacks (cs.take i) ws = some n → lacks cs ws = some n := by
  intro cs ws n i h
  have : lacks (cs.take i ++ cs.drop i) ws = some n := by
    unfold lacks at h ⊢
    rw [List.map_append, List.find?_append, h]
    rfl
  rwa [List.take_append_drop] at this
theorem ok_call {f C CU fU : Addr} {fd dU : FuncData} (F : Fun K "__call__" "Form.__call__" sForm_call f fd) (T : FTx K mg C) (U : ErrC K mg "UnknownName" CU fU "name")
    (EU : FnOk P w K mg base CX0 1 fU dU ["self", "name"] (spE K CU "name")) (bU : Binds K dU ["self", "name"] []) : FnOk P w K mg base (L2.CX P w) 3 f fd ["self", "values"] (spCall C CU) := by
  refine F.okX scCall (fun vs H Q E h => ?_) (fun cdv A outer s H vs Q E hr h => ?_)
  · obtain ⟨p, d, dv, cs, ws, c, rfl, _⟩ := h
    rfl
  · obtain ⟨p, d, dv, cs, ws, c, rfl, ⟨⟨dx, hp⟩, hdc, can, hlen⟩, hdv, hvd, mc, mv, k1, k2⟩ := h
    have hu := hu_of hr
    have npd : p ≠ d := by
      intro e
      subst e
      rcases hdc with b | ⟨o, b⟩ <;> (rw [hp] at b; cases b)
    -- the loop's own reading, from any heap where the dict stands still
    have loop : ∀ (W : L2.WX) (D : Ends) (od : Obj) (H1 : Hp), H1 p = some (.ins C dx (ffl d c)) → H1 d = some (.frz od (.dK (dk cs))) → (∀ b o, H b = some o → b ≠ d → H1 b = some o) → (∀ dd, H1 dd = none → H dd = none) →
        (∀ n, lacks cs ws = some n → ∀ (σ : L2.St) (dd : Addr) (H' : Hp), H dd = none → H' dd = some (.xd [("name", .str n)]) → (∀ b o, H1 b = some o → H' b = some o) → W (.ref CU) (some dd) σ H') →
        (lacks cs ws = none → ∀ (v w : Option V) (H' : Hp), (∀ b o, H1 b = some o → H' b = some o) → D.nx [some (.ref p), some (.ref dv), some (.int (c + prods cs ws)), v, w] H') →
        ∃ Wt : Nat → Nat → L2.St → Hp → Prop, (∃ m, Wt 0 m [some (.ref p), some (.ref dv), some (.int c), none, none] H1) ∧ ∀ i m σ H, Wt i m σ H → ((Iti d od (dk cs)).stop i H ∧ D.nx σ H) ∨ ((Iti d od (dk cs)).go i H ∧ ∃ N : L2.St → Hp → Prop, (∀ σ' H', N σ' H' → ∃ m', m' < m ∧ Wt (i + 1) m' σ' H') ∧
          ∀ x H', (Iti d od (dk cs)).yld i H x H' → gTup K 2 (gCons (gName 3) (gCons (gName 4) gNil)) x σ H' fun σ2 H2 =>
            (tSeq (tIfS (tTest (tDNotIn (tVar 3) (tVar 1))) (fun _ σ H => tMkO CU (spE K CU "name") [] (tCons (tVar 3) tNil) σ H fun cls d H' => W cls d σ H') tNext)
              (tAsg (tOp (rI0 fun i j => .int (i + j)) (tVar 2) (tOp (rI CMulW fun i j => .int (i * j)) (tVar 4) (tDGet (tVar 1) (tVar 3)))) (gName 2))) { D with nx := N, ct := N, bk := D.nx } σ2 H2) := by
      intro W D od H1 hp1 hd1 hk1 hf1 kW kD
      refine for_it walk_items (fun i σ H' => (∃ v w, σ = [some (.ref p), some (.ref dv), some (.int (c + prods (cs.take i) ws)), v, w]) ∧ lacks (cs.take i) ws = none ∧ Same H1 H') ⟨⟨none, none, by simp [prods]⟩, rfl, Same.refl _⟩ (fun i σ H' _ h => h.2.2 _ _ hd1) ?_ ?_
      · rintro i x σ H2 H3 hi ⟨⟨v, w', rfl⟩, hl, s1⟩ ⟨t, x1, y1, rfl, nt, rfl, e1, e2⟩
        rw [dk_len] at hi
        have he : (dk cs)[i]? = some (Sum.inr (cs[i]).1, V.int (cs[i]).2) := by
          unfold dk
          rw [List.getElem?_map, List.getElem?_eq_getElem hi]
          rfl
        have e1 : Option.map (fun kv : Key × V => kV kv.1) (dk cs)[i]? = some x1 := e1
        have e2 : Option.map Prod.snd (dk cs)[i]? = some y1 := e2
        rw [he] at e1 e2
        obtain rfl : V.str (cs[i]).1 = x1 := Option.some.inj e1
        obtain rfl : V.int (cs[i]).2 = y1 := Option.some.inj e2
        have hm : cs[i] ∈ cs := List.getElem_mem hi
        have htk := call_turn (ws := ws) hi
        have sT : Same H1 (L2.upd H2 t (.tup [V.str (cs[i]).1, V.int (cs[i]).2])) := sameUpd s1 (s1.free nt)
        have hdv2 := sT _ _ (hk1 _ _ hdv hvd)
        have hget : DGet (L2.upd H2 t (.tup [V.str (cs[i]).1, V.int (cs[i]).2])) dv (V.str (cs[i]).1) ((lookO ws (cs[i]).1).map V.int) := by
          rw [← valV_dk]
          exact DGet.k (k := Sum.inr (cs[i]).1) hdv2
        refine ⟨t, _, rfl, .inl (.inl upd_same), rfl, _, _, rfl, _, _, rfl, rfl, ?_⟩
        refine ⟨_, rfl, _, rfl, dv, _, rfl, hget, _, rfl, ?_⟩
        cases hq : lookO ws (cs[i]).1 with
        | none =>
          refine iteT ?_
          have hlk : lacks cs ws = some (cs[i]).1 := by
            refine lacks_mono (i + 1) ?_
            rw [htk, lacks_snoc_none, hl, if_pos hq]
            rfl
          refine ⟨_, rfl, (by show 1 ≤ 1000; decide), fun a na => ?_⟩
          refine ⟨a, _, rfl, upd_same, fun dd nd ne => ⟨rfl, dd, [("name", V.str (cs[i]).1)], upd_same, ?_, ?_, ?_⟩⟩
          · rw [upd_ne ne, upd_same]
          · rw [upd_ne ne] at nd
            exact nd
          · rw [upd_ne ne] at nd
            refine kW _ hlk _ dd _ (hf1 _ (sT.free nd)) upd_same fun b o e => ?_
            rw [made_heap na ne, upd_ne (ne_of_none (sT b o e) nd)]
            exact sT b o e
        | some z =>
          refine iteF ?_
          have hz : look ws (cs[i]).1 = z := by unfold look; rw [hq]; rfl
          have hget2 := hget
          rw [hq] at hget2
          refine ⟨_, rfl, _, rfl, _, rfl, _, rfl, dv, _, rfl, hget2, _, _, rfl, rfl, wide_mul (mc _ hm) (by rw [← hz]; exact mv _) (by decide) (by decide) (by decide), _, _, rfl, rfl, ?_⟩
          refine ⟨⟨some (V.str (cs[i]).1), some (V.int (cs[i]).2), ?_⟩, ?_, sT⟩
          · rw [htk, prods_snoc, hz]
            show [some (V.ref p), some (V.ref dv), some (V.int (c + prods (cs.take i) ws + (cs[i]).2 * z)), some (V.str (cs[i]).1), some (V.int (cs[i]).2)] = _
            rw [Int.add_assoc]
          · rw [htk, lacks_snoc_none, hl, if_neg (by rw [hq]; simp)]
            rfl
      · rintro σ H2 ⟨⟨v, w', rfl⟩, hl, s1⟩
        rw [dk_len, List.take_length] at hl ⊢
        exact kD hl v w' H2 s1
    rcases hdc with hd | ⟨od, hd⟩
    · refine ⟨_, pss_cons (ps_set (i := 2) scCall.nd rfl (Or.inl rfl) (pe_fld (pv 0) rfl))
        (pss_cons (ps_lock (ps_for (passes_of rfl) rfl (pi_items (pe_fld (pv 0) rfl)) (pg_tup rfl (pgs_cons (pg_name (i := 3) scCall.nd rfl (Or.inl rfl)) (pgs_cons (pg_name (i := 4) scCall.nd rfl (Or.inl rfl)) pgs_nil)))
          (pss_cons (ps_if (pt_cmp (pc_dnotin hu (pv 3) (pv 1))) (pss_one (ps_raise rfl (takes_of rfl rfl rfl rfl) (pmk_oex U.ox U.iC U.tI EU hr bU .nil pass0 rfl U.mg (pa_cons (pv 3) pa_nil)))) pss_nil)
          (pss_one (ps_set (i := 2) scCall.nd rfl (Or.inl rfl) (pe_op op_add (pv 2) (pe_op op_mulW (pv 4) (pe_dget hu (pv 1) (pv 3) (fun _ _ => rfl)))))))))
        (pss_one (ps_ret (pv 2)))), ?_⟩
      refine ⟨_, rfl, p, C, dx, _, _, rfl, hp, T.cl, T.nT, ffl_ct d c, ?_⟩
      refine ⟨d, _, hd, trivial, fun od => ?_⟩
      have hp1 : (L2.upd H d (.frz od (.dK (dk cs)))) p = some (.ins C dx (ffl d c)) := by rw [upd_ne npd]; exact hp
      refine ⟨_, rfl, p, C, dx, _, _, rfl, hp1, T.cl, T.nF, ffl_cf d c, d, od, _, rfl, upd_same, ?_⟩
      refine loop (fun cls d _ H => E cls d H) _ od _ hp1 upd_same (fun b o e n => by rw [upd_ne n]; exact e) (fun dd e => ?_) (fun n hn σ dd H' nd e s1 => ?_) (fun hn v w' H' s1 => ?_)
      · by_cases q : dd = d
        · rw [q, upd_same] at e; cases e
        · rw [upd_ne q] at e; exact e
      · refine k2 n hn dd H' nd e ⟨fun b o e2 n2 => s1 b o (by rw [upd_ne n2]; exact e2), fun u r => ?_⟩
        have : u = dk cs := by
          rcases r with r | ⟨o', r⟩
          · rw [hd] at r; cases r; rfl
          · rw [hd] at r; cases r
        rw [this]
        exact .inr ⟨od, s1 _ _ upd_same⟩
      · refine ⟨s1 _ _ upd_same, ?_⟩
        refine ⟨_, rfl, k1 hn _ ⟨fun b o e2 n2 => ?_, fun u r => ?_⟩⟩
        · rw [upd_ne n2]
          exact s1 b o (by rw [upd_ne n2]; exact e2)
        · have : u = dk cs := by
            rcases r with r | ⟨o', r⟩
            · rw [hd] at r; cases r; rfl
            · rw [hd] at r; cases r
          rw [this]
          exact .inl upd_same
    · refine ⟨_, pss_cons (ps_set (i := 2) scCall.nd rfl (Or.inl rfl) (pe_fld (pv 0) rfl))
        (pss_cons (ps_for (passes_of rfl) rfl (pi_items (pe_fld (pv 0) rfl)) (pg_tup rfl (pgs_cons (pg_name (i := 3) scCall.nd rfl (Or.inl rfl)) (pgs_cons (pg_name (i := 4) scCall.nd rfl (Or.inl rfl)) pgs_nil)))
          (pss_cons (ps_if (pt_cmp (pc_dnotin hu (pv 3) (pv 1))) (pss_one (ps_raise rfl (takes_of rfl rfl rfl rfl) (pmk_oex U.ox U.iC U.tI EU hr bU .nil pass0 rfl U.mg (pa_cons (pv 3) pa_nil)))) pss_nil)
          (pss_one (ps_set (i := 2) scCall.nd rfl (Or.inl rfl) (pe_op op_add (pv 2) (pe_op op_mulW (pv 4) (pe_dget hu (pv 1) (pv 3) (fun _ _ => rfl))))))))
        (pss_one (ps_ret (pv 2)))), ?_⟩
      refine ⟨_, rfl, p, C, dx, _, _, rfl, hp, T.cl, T.nT, ffl_ct d c, ?_⟩
      refine ⟨_, rfl, p, C, dx, _, _, rfl, hp, T.cl, T.nF, ffl_cf d c, d, od, _, rfl, hd, ?_⟩
      refine loop (fun cls d _ H => E cls d H) _ od _ hp hd (fun b o e n => e) (fun dd e => e) (fun n hn σ dd H' nd e s1 => ?_) (fun hn v w' H' s1 => ?_)
      · exact k2 n hn dd H' nd e (Sd.of s1)
      · exact ⟨_, rfl, k1 hn _ (Sd.of s1)⟩
end
end OS
namespace OS
open PySem L2 PySem.Spec PyProof.Rows
section
variable {X : Cx} {CX : CXT} {k : Nat} {g C : Addr} {fd : FuncData} {ps : List Str} {sp : Sp} {E : L2.St → XK} {fe e : Expr} {es : List Expr} {pos : Pos} {tf : TE} {t : TA}
/-- f(e, ..), f an instance of the class at C, where what is raised is wished for at the caller's slots -/
def tCallOS (X : Cx) (C : Addr) (sp : Sp) (E : L2.St → XK) (tf : TE) (t : TA) : TE := fun σ H Q => tf σ H fun y H1 => ∃ a, y = V.ref a ∧ t σ H1 fun vs H2 => StX.InsC X H2 a C ∧ sp (V.ref a :: vs) H2 Q (E σ)
theorem pe_callOS (hf : PE X fe tf) (c : StX.CallO X.K C g) (F : FnOk X.prog X.w X.K X.mg X.base CX k g fd ps sp) (hr : Room k X.A) (hb : Binds X.K fd ps []) (hx : ∀ σ, PassesAt CX X σ (E σ)) (ha : PA X (e :: es) t)
    (ht : eval (.Call fe (e :: es) [] pos) X.env = (do callWith pos (← eval fe X.env) [] (backTo pos (starEach (e :: es) X.env)) (backToKw pos (keywordEach [] X.env))) := by rfl)
    (he : starEach (e :: es) X.env = (false, eval e X.env) :: starEach es X.env := by rfl) (hpl : (backTo pos (starEach es X.env)).any (·.1) = false := by rfl) : PE X (.Call fe (e :: es) [] pos) (tCallOS X C sp E tf t) := by
  refine ⟨fun pins s σ H Q I h => ?_⟩
  refine Call_ (thn (hf.run pins s σ H _ I h) fun u s1 ⟨y, H1, I1, ry, a, ey, q⟩ => ?_) ht
  subst ey
  obtain rfl : u = Value.ref a := ry
  refine StX.callO_with (thn (ha.run pos pins s1 σ H1 _ I1 q) fun us s2 ⟨vs, H2, I2, r, hi, q2⟩ => ?_) he hpl
  obtain ⟨ox, od, J, hd⟩ := StX.insC_at I2 hi
  refine ⟨⟨C, ox, od, J, hd⟩, wpAny_call (PySem.W.kco_code I2.kIn J hd c.at_ c.fn c.fi ?_)⟩
  have r2 : Vals (V.ref a :: vs) (Value.ref a :: us) := .cons rfl r
  have hl : (Value.ref a :: us).length = ps.length := by rw [← r2.length]; exact F.len _ _ _ _ q2
  have b := hb s2 (Value.ref a :: us) I2.kIn (by rw [List.append_nil]; exact hl)
  rw [List.append_nil] at b
  refine codeAny_mono (F.run X.A X.stack s2 H2 ⟨.ref a :: us, []⟩ (.ref a :: us) (.ref a :: vs) Q (E σ) hr I2.env0 b r2 q2) fun r' s' hq => ?_
  cases r' with
  | error e => exact hx σ pins H2 s2 e s' I2 hq
  | ok fl =>
    cases fl with
    | ret u => exact I2.after hq
    | next => exact False.elim hq
    | brk => exact False.elim hq
    | cont => exact False.elim hq
end
/-- what asking the form for values must give -/
def due (cs : Cf) (c : Int) (ws : Cf) : List V := match lacks cs ws with
  | some n => [.str "unknown", .str n]
  | none => [.str "value", .int (c + prods cs ws)]
def spTry (C : Addr) : Sp := fun vs H Q _ => ∃ (p d dv : Addr) (cs ws : Cf) (c : Int), vs = [.ref p, .ref dv] ∧ FormR C H p d cs c ∧ H dv = some (.dK (dk ws)) ∧ dv ≠ d ∧ (∀ e ∈ cs, Mid e.2) ∧ (∀ x, Mid (look ws x)) ∧
  ∀ (T : Addr) (H' : Hp), H T = none → H' T = some (.tup (due cs c ws)) → Sd d H H' → Q (.ref T) H'
def spDue : Sp := fun vs H Q _ => ∃ (pd dv : Addr) (kvs cs ws : Cf) (c : Int), vs = [.ref pd, .int c, .ref dv] ∧ H pd = some (.dK (dk kvs)) ∧ (kvs.map (·.1)).Nodup ∧ kvs.length < 64 ∧ H dv = some (.dK (dk ws)) ∧ (∀ e ∈ kvs, Mid e.2) ∧ (∀ x, Mid (look ws x)) ∧ Can cs ∧ (∀ x, look cs x = look kvs x) ∧
  ∀ (T : Addr) (H' : Hp), H T = none → H' T = some (.tup (due cs c ws)) → Same H H' → Q (.ref T) H'
theorem sum_perm {l m : List Int} (h : l.Perm m) : l.sum = m.sum := by
  induction h with
  | nil => rfl
  | cons x _ ih => rw [List.sum_cons, List.sum_cons, ih]
  | swap x y l => simp only [List.sum_cons]; omega
  | trans _ _ a b => rw [a, b]
theorem sum_pick (g h : Str → Int) : ∀ ys : List Str, ((pick g ys).map fun e => e.2 * h e.1).sum = (ys.map fun y => g y * h y).sum
  | [] => rfl
  | y :: r => by
    have ih := sum_pick g h r
    have e : pick g (y :: r) = if g y ≠ 0 then (y, g y) :: pick g r else pick g r := by
      unfold pick
      by_cases q : g y = 0
      · rw [if_neg (fun z => z q), List.filter_cons, if_neg (by simp [q])]
      · rw [if_pos q, List.filter_cons, if_pos (by simp [q])]
        rfl
    rw [e, List.map_cons, List.sum_cons, ← ih]
    by_cases q : g y = 0
    · rw [if_neg (fun z => z q), q]
      omega
    · rw [if_pos q, List.map_cons, List.sum_cons]
theorem sum_kvs {kvs : Cf} (nd : (kvs.map (·.1)).Nodup) (h : Str → Int) : (kvs.map fun e => e.2 * h e.1).sum = ((kvs.map (·.1)).map fun y => look kvs y * h y).sum := by
  rw [List.map_map]
  congr 1
  refine List.map_congr_left fun e he => ?_
  show e.2 * h e.1 = look kvs e.1 * h e.1
  unfold look
  rw [lookO_of_mem nd (k := e.1) (v := e.2) he]
  rfl
theorem look_mid {kvs : Cf} (h : ∀ e ∈ kvs, Mid e.2) (k : Str) : Mid (look kvs k) := by
  unfold look
  cases q : lookO kvs k with
  | none => unfold Mid; decide +kernel
  | some v => exact h _ (lookO_mem q)
theorem low_lt : ∀ c ∈ lowL.cps.toList, c < 1114112 := by decide +kernel
theorem dig_lt : ∀ c ∈ digL.cps.toList, c < 1114112 := by decide +kernel
theorem good_ok {z : Str} (h : good z = true) : (z.cps.all (· < 0x110000)) = true := by
  unfold good at h
  by_cases h1 : z = "mod"
  · rw [if_pos h1] at h; cases h
  · rw [if_neg h1] at h
    by_cases h2 : z.cps.toList.length < 1 ∨ 6 < z.cps.toList.length
    · rw [if_pos h2] at h; cases h
    · rw [if_neg h2] at h
      by_cases h3 : z.cps.toList.headD 0 ∈ lowL.cps.toList
      · rw [if_pos h3] at h
        rw [← Array.all_toList]
        refine List.all_eq_true.mpr fun c hc => ?_
        have := List.all_eq_true.mp h c hc
        unfold chOk at this
        rw [Bool.or_eq_true, decide_eq_true_eq, decide_eq_true_eq] at this
        rcases this with q | q
        · exact decide_eq_true (low_lt c q)
        · exact decide_eq_true (dig_lt c q)
      · rw [if_neg h3] at h; cases h
theorem lacks_good {cs ws : Cf} {n : Str} (hg : ∀ e ∈ cs, good e.1 = true) (h : lacks cs ws = some n) : good n = true := by
  obtain ⟨e, he, q⟩ := List.mem_map.mp (List.mem_of_find?_eq_some h)
  rw [← q]
  exact hg e he
theorem due_shape {cs : Cf} (hg : ∀ e ∈ cs, good e.1 = true) (c : Int) (ws : Cf) : ∃ ds : List PyData, (∀ K H, DpAll K H (due cs c ws) ds) ∧ PySem.SeqAt.shaped (.tuple ds) = true ∧ PyData.eqv (.tuple ds) (.tuple ds) = true := by
  have d0 : ∀ x y : PyData, x.depth = 0 → y.depth = 0 → x.canLay0 = true → y.canLay0 = true → PySem.SeqAt.shaped (.tuple [x, y]) = true := by
    intro x y h1 h2 h3 h4
    unfold SeqAt.shaped
    rw [Bool.and_eq_true]
    refine ⟨by simp [PyData.canLay0, PyData.canLayAll0, h3, h4], decide_eq_true ?_⟩
    simp [PyData.depth, PyData.depthAll, h1, h2]
  unfold due
  cases q : lacks cs ws with
  | some n =>
    have hs : PySem.SeqAt.shaped (.tuple [.str "unknown", .str n]) = true := d0 _ _ (by simp [PyData.depth]) (by simp [PyData.depth]) (by show (Str.cps _).all _ = true; decide +kernel) (by simp only [PyData.canLay0]; exact good_ok (lacks_good hg q))
    exact ⟨[.str "unknown", .str n], fun K H => .cons (.str _) (.cons (.str _) .nil), hs, SeqAt.eqv_refl _ (SeqAt.canLay_of_shaped hs)⟩
  | none =>
    have hs : PySem.SeqAt.shaped (.tuple [.str "value", .int (c + prods cs ws)]) = true := d0 _ _ (by simp [PyData.depth]) (by simp [PyData.depth]) (by show (Str.cps _).all _ = true; decide +kernel) (by simp [PyData.canLay0])
    exact ⟨[.str "value", .int (c + prods cs ws)], fun K H => .cons (.str _) (.cons (.int _) .nil), hs, SeqAt.eqv_refl _ (SeqAt.canLay_of_shaped hs)⟩
section
variable {P : Program} {w : World} {K : PySem.W.Frag} {mg : Str → Option Value} {base : Heap}
theorem scTry : FnScope ["_law_form", "_law_values", "e"] ["_law_form", "_law_values"] (defScope s_call) := ⟨rfl, rfl, rfl, by decide +kernel, rfl, by decide +kernel, by decide +kernel⟩
theorem ok_try {f C CU fU fC : Addr} {fd dC : FuncData} (F : Fun K "_law_call" "_law_call" s_call f fd) (U : ErrC K mg "UnknownName" CU fU "name")
    (EC : FnOk P w K mg base (L2.CX P w) 3 fC dC ["self", "values"] (spCall C CU)) (bC : Binds K dC ["self", "values"] []) (CO : StX.CallO K C fC) : FnOk P w K mg base CX0 4 f fd ["_law_form", "_law_values"] (spTry C) := by
  refine F.ok scTry (fun vs H Q E h => ?_) (fun cdv A outer s H vs Q E hr h => ?_)
  · obtain ⟨p, d, dv, cs, ws, c, rfl, _⟩ := h
    rfl
  · obtain ⟨p, d, dv, cs, ws, c, rfl, FR, hdv, hvd, mc, mv, k⟩ := h
    refine ⟨_, pss_one (ps_try_as (i := 2) (tb := fun W => tRet (tTup (tCons (tC (.str "value")) (tCons (tCallOS (cxOf CX0 P w K mg base ["_law_form", "_law_values", "e"] "_law_call" (defScope s_call) f cdv A outer s H E).nox C (spCall C CU) (WE W) (tVar 0) (tCons (tVar 1) tNil)) tNil))))
        (ts := fun a cls dd => tRet (tTup (tCons (tC (.str "unknown")) (tCons (tXf a cls dd CU "name" (tVar 2)) tNil)))) (Wout := fun _ _ _ _ => False) rfl rfl scTry.nd rfl rfl ⟨rfl, by decide, Or.inl U.mg⟩ takes0
      (fun W pn xe tk _ => pss_one (ps_ret (pe_tup (pa_cons pe_str (pa_cons (by exact (pe_callOS (pv 0) CO EC hr bC (fun σ => passAt tk σ) (by exact (pa_cons (pv 1) pa_nil)))) pa_nil)))))
      (fun a oe cls dd pn hz hf => pss_one (ps_ret (pe_tup (pa_cons pe_str (pa_cons (by exact (pe_xf U.xf U.no hz hf (pv 2))) pa_nil)))))), ?_⟩
    obtain ⟨dx, hp⟩ := FR.ob
    refine ⟨_, rfl, p, rfl, _, rfl, .inr ⟨dx, _, hp⟩, p, d, dv, cs, ws, c, rfl, FR, hdv, hvd, mc, mv, fun hl H' s' => ?_, fun n hn dd H' nd hdd s' => ?_⟩
    · refine ⟨by show 2 ≤ sizeLine; decide, fun T hT => ?_⟩
      have hTn : H T = none := by
        cases q : H T with
        | none => rfl
        | some o =>
          by_cases e : T = d
          · rw [e] at hT
            rcases FR.dc with z | ⟨o', z⟩
            · rcases s'.rd _ (.inl z) with y | ⟨_, y⟩ <;> (rw [hT] at y; cases y)
            · rcases s'.rd _ (.inr ⟨o', z⟩) with y | ⟨_, y⟩ <;> (rw [hT] at y; cases y)
          · rw [s'.keep _ _ q e] at hT
            cases hT
      refine k T _ hTn ?_ (s'.trans (Sd.of (sameUpd (Same.refl _) hT)))
      rw [upd_same]
      unfold due
      rw [hl]
    · refine ⟨true, U.te, fun _ a0 na => ?_, fun q => Bool.noConfusion q⟩
      refine ⟨_, rfl, rfl, rfl, dd, _, _, rfl, hdd, rfl, by show 2 ≤ sizeLine; decide, fun T hT => ?_⟩
      have hTn : H T = none := by
        cases q : H T with
        | none => rfl
        | some o =>
          by_cases e : T = d
          · rw [e] at hT
            rcases FR.dc with z | ⟨o', z⟩
            · rcases s'.rd _ (.inl z) with y | ⟨_, y⟩ <;> (rw [hT] at y; cases y)
            · rcases s'.rd _ (.inr ⟨o', z⟩) with y | ⟨_, y⟩ <;> (rw [hT] at y; cases y)
          · rw [s'.keep _ _ q e] at hT
            cases hT
      refine k T _ hTn ?_ (s'.trans (Sd.of (sameUpd (Same.refl _) hT)))
      rw [upd_same]
      unfold due
      rw [hn]
abbrev nDue : List Str := ["_law_parts_here", "_law_offset", "_law_values", "_law_lacking", "_law_name_here"]
theorem scDue : FnScope nDue ["_law_parts_here", "_law_offset", "_law_values"] (defScope s_due) := ⟨rfl, rfl, rfl, by decide +kernel, rfl, by decide +kernel, by decide +kernel⟩
theorem ok_due {f : Addr} {fd : FuncData} (F : Fun K "_law_due" "_law_due" s_due f fd) (mS : mg "sorted" = none) (mU : mg "sum" = none) : FnOk P w K mg base CX0 1 f fd ["_law_parts_here", "_law_offset", "_law_values"] spDue := by
  refine F.ok scDue (fun vs H Q E h => ?_) (fun cdv A outer s H vs Q E hr h => ?_)
  · obtain ⟨pd, dv, kvs, cs, ws, c, rfl, _⟩ := h
    rfl
  · obtain ⟨pd, dv, kvs, cs, ws, c, rfl, hpd, nd, hlen, hdv, mk, mv, can, hlk, k⟩ := h
    have hu := hu_of hr
    refine ⟨_, pss_cons (ps_setLc (i := 3) (own := [("_law_name_here", 4)]) (g := gName 4) rfl scDue.nd rfl rfl (sw_true rfl rfl rfl (by decide +kernel)) (pi_list (pe_callB (call_sortedD rfl) (by rfl) mS (by decide +kernel) (pa_cons (pv 0) pa_nil))) (blkOk_by (own := [("_law_name_here", 4)]) (N := nDue) (sc := defScope s_due) (by decide +kernel))
        (fun _ _ _ _ _ => pg_name (i := 4) scDue.nd rfl (Or.inl rfl)) (fun _ _ _ _ _ => pts_one (PW.pt (pw_and (pt_cmpR op_ne (pe_dget hu (pv 0) (pv 4) (fun _ _ => rfl)) pe_int (nomark _)) (pw_and1 (pt_cmp (pc_dnotin hu (pv 4) (pv 2))))))) (fun _ _ _ _ _ => pv 4))
      (pss_cons (ps_if (pt_truth (pv 3) (by intro _; rfl)) (pss_one (ps_ret (pe_tup (pa_cons pe_str (pa_cons (pe_ix ix_list (pv 3) pe_int fun _ _ => rfl) pa_nil))))) pss_nil)
      (pss_one (ps_ret (pe_tup (pa_cons pe_str (pa_cons (pe_op op_add (pv 1) (pe_callB (cr_sum rfl) (by rfl) mU (by decide +kernel) (pa_cons
        (pe_lock (pe_lc (own := [("_law_name_here", 4)]) (g := gName 4) (tt := tYes) rfl scDue.nd (pi_keys (pv 0)) (blkOk_by (own := [("_law_name_here", 4)]) (N := nDue) (sc := defScope s_due) (by decide +kernel))
        (fun _ _ _ _ _ => pg_name (i := 4) scDue.nd rfl (Or.inl rfl)) (fun _ _ _ _ _ => pts_nil) (fun _ _ _ _ _ => pe_op op_mulW (pe_dget hu (pv 0) (pv 4) (fun _ _ => rfl)) (pe_dget2 hu (pv 2) (pv 4) pe_int ⟨rfl, rfl, rfl, rfl⟩)))) pa_nil))) pa_nil)))))), ?_⟩
    refine ⟨_, rfl, pd, dk kvs, kvs.map (·.1), rfl, Rd.of hpd, ?_, by rw [List.length_map]; exact hlen, fun ys l perm srt hl => ?_⟩
    · unfold dk
      rw [List.map_map, List.map_map]
      rfl
    have ynd : ys.Nodup := perm.nodup_iff.mpr nd
    have yasc : Asc ys := sorted_asc srt ynd
    have ylen : ys.length < 64 := by rw [perm.length_eq, List.length_map]; exact hlen
    have s1 : Same H (L2.upd H l (.lst (ys.map V.str))) := sameUpd (Same.refl _) hl
    obtain ⟨H1, hH1⟩ : ∃ H1, H1 = L2.upd H l (.lst (ys.map V.str)) := ⟨_, rfl⟩
    rw [← hH1] at s1
    have hl1 : H1 l = some (.lst (ys.map V.str)) := by rw [hH1]; exact upd_same
    rw [← hH1]
    have hpk : cs = pick (look kvs) ys := can.unique (pick_can yasc) fun x => by
      rw [hlk, pick_look yasc]
      intro q hq
      refine perm.mem_iff.mpr ?_
      cases Classical.em (q ∈ kvs.map (·.1)) with
      | inl z => exact z
      | inr z => exact absurd (look_none z) hq
    refine ⟨l, rfl, ⟨_, SqL.of hl1⟩, fun D hD => ?_⟩
    refine lc_list (K := K) (a := l) (xs := ys.map V.str) (fun i H' => Same H1 H' ∧ H' D = some (.lst (((ys.take i).filter fun n => decide (look kvs n ≠ 0) && decide (lookO ws n = none)).map V.str))) ⟨sameUpd (Same.refl _) hD, by rw [upd_same]; rfl⟩ (fun i H' _ h => SqL.of (h.1 _ _ hl1)) ?_ ?_
    · rintro i x H2 hx ⟨s2, e2⟩
      rw [List.getElem?_map] at hx
      cases hyi : ys[i]? with
      | none => rw [hyi] at hx; cases hx
      | some y =>
        rw [hyi] at hx
        obtain rfl : V.str y = x := Option.some.inj hx
        have hmem : y ∈ ys := List.mem_of_getElem? hyi
        have hpd2 : H2 pd = some (.dK (dk kvs)) := s2 _ _ (s1 _ _ hpd)
        have hdv2 : H2 dv = some (.dK (dk ws)) := s2 _ _ (s1 _ _ hdv)
        have hlo : lookO kvs y = some (look kvs y) := by
          have : y ∈ kvs.map (·.1) := perm.mem_iff.mp hmem
          cases q : lookO kvs y with
          | none => exact absurd this (lookO_none.mp q)
          | some z => unfold look; rw [q]; rfl
        have hg : DGet H2 pd (V.str y) (some (V.int (look kvs y))) := by
          have hv : valV (dk kvs) (Sum.inr y : Key) = some (V.int (look kvs y)) := by rw [valV_dk, hlo]; rfl
          rw [← hv]
          exact DGet.k (k := Sum.inr y) hpd2
        have hgw : DGet H2 dv (V.str y) ((lookO ws y).map V.int) := by
          rw [← valV_dk]
          exact DGet.k (k := Sum.inr y) hdv2
        have htk : ys.take (i + 1) = ys.take i ++ [y] := by rw [List.take_succ, hyi]; rfl
        have hsz : (((ys.take i).filter fun n => decide (look kvs n ≠ 0) && decide (lookO ws n = none)).map V.str).length < sizeLine := by
          rw [List.length_map]
          exact small1000 (Nat.le_trans (List.length_filter_le _ _) (by rw [List.length_take]; omega))
        refine ⟨rfl, ?_⟩
        refine ⟨_, rfl, _, rfl, pd, _, rfl, hg, rfl, _, rfl, ?_⟩
        by_cases hz : look kvs y = 0
        · rw [show (!decide (V.int (look kvs y) = V.int 0)) = false by rw [hz]; simp]
          refine iteF ?_
          refine iteF ?_
          refine ⟨s2, ?_⟩
          rw [htk, List.filter_append, e2]
          simp [hz]
        · rw [show (!decide (V.int (look kvs y) = V.int 0)) = true by rw [decide_eq_false (fun z => hz (V.int.inj z))]; rfl]
          refine iteT ?_
          refine ⟨_, rfl, _, rfl, dv, _, rfl, hgw, _, rfl, ?_⟩
          cases hq : lookO ws y with
          | none =>
            refine iteT ?_
            refine ⟨_, rfl, _, e2, hsz, sameUpd s2 hD, ?_⟩
            rw [upd_same, htk, List.filter_append]
            simp [hz, hq]
          | some z =>
            refine iteF ?_
            refine ⟨s2, ?_⟩
            rw [htk, List.filter_append, e2]
            simp [hz, hq]
    · rintro H2 ⟨s2, e2⟩
      rw [List.length_map, List.take_length] at e2
      have hL : ∀ n, (ys.filter fun n => decide (look kvs n ≠ 0) && decide (lookO ws n = none)).head? = some n → lacks cs ws = some n := by
        intro n hn
        unfold lacks
        rw [hpk, pick_names, ← List.head?_filter, List.filter_filter]
        rw [← hn]
        congr 1
        exact List.filter_congr fun x _ => Bool.and_comm _ _
      have hL0 : (ys.filter fun n => decide (look kvs n ≠ 0) && decide (lookO ws n = none)) = [] → lacks cs ws = none := by
        intro hn
        unfold lacks
        rw [hpk, pick_names, ← List.head?_filter, List.filter_filter]
        rw [show (ys.filter fun a => decide (lookO ws a = none) && decide (look kvs a ≠ 0)) = [] by
          rw [← hn]
          exact List.filter_congr fun x _ => Bool.and_comm _ _]
        rfl
      have s12 := s1.trans s2
      have hDn : H D = none := s1.free hD
      refine ⟨_, rfl, _, .inl ⟨_, SqL.of e2, rfl⟩, ?_⟩
      cases hq : (ys.filter fun n => decide (look kvs n ≠ 0) && decide (lookO ws n = none)) with
      | cons n r =>
        refine iteT ?_
        rw [hq] at e2
        refine ⟨_, rfl, D, _, _, V.str n, rfl, rfl, SqL.of e2, atI_nat (j := 0) rfl, by show 2 ≤ sizeLine; decide, fun T hT => ?_⟩
        refine k T _ (s12.free hT) ?_ (sameUpd s12 (s12.free hT))
        rw [upd_same]
        unfold due
        rw [hL n (by rw [hq]; rfl)]
      | nil =>
        refine iteF ?_
        refine ⟨_, rfl, ?_⟩
        refine ⟨pd, _, s12 _ _ hpd, trivial, fun od => ?_⟩
        obtain ⟨H3, hH3⟩ : ∃ H3, H3 = L2.upd H2 pd (.frz od (.dK (dk kvs))) := ⟨_, rfl⟩
        rw [← hH3]
        have hp3 : H3 pd = some (.frz od (.dK (dk kvs))) := by rw [hH3]; exact upd_same
        have k3 : ∀ b o, H2 b = some o → b ≠ pd → H3 b = some o := fun b o e n => by rw [hH3, upd_ne n]; exact e
        have f3 : ∀ b, H3 b = none → H2 b = none := fun b e => by
          rw [hH3] at e
          by_cases q : b = pd
          · rw [q, upd_same] at e; cases e
          · rw [upd_ne q] at e; exact e
        refine ⟨_, rfl, pd, od, rfl, .inl ⟨_, hp3, fun L hL' => ?_⟩⟩
        refine lc_it walk_keys (fun i H' => Same H3 H' ∧ H' L = some (.lst (((kvs.take i).map fun e => e.2 * look ws e.1).map V.int))) ⟨sameUpd (Same.refl _) hL', by rw [upd_same]; rfl⟩ (fun i H' _ h => h.1 _ _ hp3) ?_ ?_
        · rintro i x H4 H5 hi ⟨s4, e4⟩ ⟨rfl, k', v', hkv, rfl⟩
          rw [dk_len] at hi
          have he : (dk kvs)[i]? = some (Sum.inr (kvs[i]).1, V.int (kvs[i]).2) := by
            unfold dk
            rw [List.getElem?_map, List.getElem?_eq_getElem hi]
            rfl
          rw [he] at hkv
          cases hkv
          have hm : kvs[i] ∈ kvs := List.getElem_mem hi
          have hg : DGet H5 pd (V.str (kvs[i]).1) (some (V.int (kvs[i]).2)) := by
            have hv : valV (dk kvs) (Sum.inr (kvs[i]).1 : Key) = some (V.int (kvs[i]).2) := by rw [valV_dk, lookO_of_mem nd (k := (kvs[i]).1) (v := (kvs[i]).2) hm]; rfl
            rw [← hv]
            exact .inl ⟨dk kvs, Sum.inr (kvs[i]).1, .inr ⟨od, s4 _ _ hp3⟩, rfl, rfl⟩
          have hdv5 : Rd H5 dv (.dK (dk ws)) := by
            by_cases e : dv = pd
            · subst e
              have : dk ws = dk kvs := by rw [hdv] at hpd; exact HO.dK.inj (Option.some.inj hpd)
              rw [this]
              exact .inr ⟨od, s4 _ _ hp3⟩
            · exact .inl (s4 _ _ (k3 _ _ (s12 _ _ hdv) e))
          have hgw : DGet H5 dv (V.str (kvs[i]).1) ((lookO ws (kvs[i]).1).map V.int) := by
            rw [← valV_dk]
            exact .inl ⟨dk ws, Sum.inr (kvs[i]).1, hdv5, rfl, rfl⟩
          have hgd : ((lookO ws (kvs[i]).1).map V.int).getD (V.int 0) = V.int (look ws (kvs[i]).1) := by
            unfold look
            cases lookO ws (kvs[i]).1 <;> rfl
          refine ⟨rfl, ?_⟩
          refine ⟨_, rfl, _, rfl, pd, _, rfl, hg, _, rfl, dv, rfl, ?_, _, rfl, _, hgw, ?_⟩
          · rcases hdv5 with z | ⟨o, z⟩
            · exact .inl ⟨_, .inl z⟩
            · exact .inl ⟨_, .inr ⟨o, z⟩⟩
          rw [hgd]
          refine ⟨_, _, rfl, rfl, wide_mul (mk _ hm) (mv _) (by decide) (by decide) (by decide), _, e4, ?_, sameUpd s4 hL', ?_⟩
          · rw [List.length_map, List.length_map, List.length_take]
            exact small1000 (by omega)
          · rw [upd_same, List.take_succ, List.getElem?_eq_getElem hi, List.map_append, List.map_append]
            rfl
        · rintro H4 ⟨s4, e4⟩
          rw [dk_len, List.take_length] at e4
          refine ⟨s4 _ _ hp3, ?_⟩
          have hLp : L ≠ pd := (ne_of_none hp3 hL').symm
          have s24 : Same H2 (L2.upd H4 pd (.dK (dk kvs))) := by
            intro b o e
            by_cases q : b = pd
            · rw [q, upd_same]
              rw [q, s12 _ _ hpd] at e
              exact e
            · rw [upd_ne q]
              exact s4 _ _ (k3 _ _ e q)
          refine ⟨L, _, rfl, SqL.of (by rw [upd_ne hLp]; exact e4), _, _, rfl, rfl, by show 2 ≤ sizeLine; decide, fun T hT => ?_⟩
          have s5 := s12.trans s24
          refine k T _ (s5.free hT) ?_ (sameUpd s5 (s5.free hT))
          rw [upd_same]
          unfold due
          rw [hL0 hq]
          show some (HO.tup [V.str "value", V.int (c + (kvs.map fun e => e.2 * look ws e.1).sum)]) = some (HO.tup [V.str "value", V.int (c + prods cs ws)])
          unfold prods
          rw [sum_kvs nd, hpk, sum_pick, sum_perm (perm.map _)]
end
end OS
namespace OS
open PySem L2
def spRight (C : Addr) : Sp := fun vs H Q _ => ∃ (p d pd dv : Addr) (kvs cs ws : Cf) (c : Int), vs = [.ref p, .ref pd, .int c, .ref dv] ∧ FormR C H p d cs c ∧ (∀ e ∈ cs, good e.1 = true) ∧ H pd = some (.dK (dk kvs)) ∧ pd ≠ d ∧ (kvs.map (·.1)).Nodup ∧ kvs.length < 64 ∧ (∀ e ∈ kvs, Mid e.2) ∧ (∀ x, look cs x = look kvs x) ∧
  H dv = some (.dK (dk ws)) ∧ dv ≠ d ∧ (ws.map (·.1)).Nodup ∧ (∀ e ∈ ws, Mid e.2) ∧ ∀ H', Sd d H H' → Q (.bl true) H'
def spLaw (K : PySem.W.Frag) : Sp := fun vs H Q _ => ∃ (a : Addr) (ns : List Int), vs = [.ref a] ∧ SqL K H a (ns.map V.int) ∧ ns.length ≤ 63 ∧ ∀ H', Q (.bl true) H'
theorem Can.mid {cs kvs : Cf} (can : Can cs) (h : ∀ x, look cs x = look kvs x) (b : ∀ e ∈ kvs, Mid e.2) : ∀ e ∈ cs, Mid e.2 := by
  intro e he
  have e1 : look cs e.1 = e.2 := by
    unfold look
    rw [lookO_of_mem can.nd (k := e.1) (v := e.2) he]
    rfl
  rw [← e1, h]
  exact look_mid b e.1
section
variable {P : Program} {w : World} {K : PySem.W.Frag} {mg : Str → Option Value} {base : Heap}
theorem scRight : FnScope ["_law_form", "_law_parts_here", "_law_offset", "_law_values", "_law_kept"] ["_law_form", "_law_parts_here", "_law_offset", "_law_values"] (defScope s_right) := ⟨rfl, rfl, rfl, by decide +kernel, rfl, by decide +kernel, by decide +kernel⟩
theorem ok_right {f fT fD C : Addr} {fd dT dD : FuncData} (F : Fun K "_law_right" "_law_right" s_right f fd) (mD : mg "dict" = none)
    (ET : FnOk P w K mg base CX0 4 fT dT ["_law_form", "_law_values"] (spTry C)) (GT : Df K mg "_law_call" fT) (bT : Binds K dT ["_law_form", "_law_values"] [])
    (ED : FnOk P w K mg base CX0 1 fD dD ["_law_parts_here", "_law_offset", "_law_values"] spDue) (GD : Df K mg "_law_due" fD) (bD : Binds K dD ["_law_parts_here", "_law_offset", "_law_values"] []) :
    FnOk P w K mg base CX0 5 f fd ["_law_form", "_law_parts_here", "_law_offset", "_law_values"] (spRight C) := by
  refine F.ok scRight (fun vs H Q E h => ?_) (fun cdv A outer s H vs Q E hr h => ?_)
  · obtain ⟨p, d, pd, dv, kvs, cs, ws, c, rfl, _⟩ := h
    rfl
  · obtain ⟨p, d, pd, dv, kvs, cs, ws, c, rfl, FR, hgc, hpd, npd, nd, hlen, mk, hlk, hdv, nvd, wnd, mw, k⟩ := h
    have hr1 : Room 1 _ := hr.mono (by decide)
    refine ⟨_, pss_cons (ps_set (i := 4) scRight.nd rfl (Or.inl rfl) (pe_callTy call_dictD (by rfl) mD (by decide +kernel) (pa_cons (pv 3) pa_nil)))
      (pss_one (ps_ret (pe_and (pe_cmpR (op_eqD hr.units) (pe_call ET hr rfl GT.mg GT.kp bT .nil pass0 (pa_cons (pv 0) (pa_cons (pv 3) pa_nil))) (pe_call ED hr1 rfl GD.mg GD.kp bD .nil pass0 (pa_cons (pv 1) (pa_cons (pv 2) (pa_cons (pv 4) pa_nil)))) (nomark _))
        (pe_one (pe_cmpR (op_eq_dictA hr.units0) (pv 3) (pv 4) (nomark _)))))), ?_⟩
    refine ⟨_, rfl, dv, dk ws, rfl, Rd.of hdv, fun kd nkd => ?_⟩
    have s1 : Same H (L2.upd H kd (.dK (dk ws))) := sameUpd (Same.refl _) nkd
    have nkdd : kd ≠ d := by
      intro e
      rw [e] at nkd
      rcases FR.dc with z | ⟨_, z⟩ <;> (rw [nkd] at z; cases z)
    have FR1 := FR.sd (Sd.of s1)
    have mcs := FR.can.mid hlk mk
    have mwl := look_mid mw
    refine ⟨_, rfl, _, rfl, p, d, dv, cs, ws, c, rfl, FR1, s1 _ _ hdv, nvd, mcs, mwl, fun T H2 nT hT s2 => ?_⟩
    have hk2 := s2.keep _ _ (show (L2.upd H kd (.dK (dk ws))) kd = some (.dK (dk ws)) from upd_same) nkdd
    have hp2 := s2.keep _ _ (s1 _ _ hpd) npd
    refine ⟨_, rfl, _, rfl, _, rfl, pd, kd, kvs, cs, ws, c, rfl, hp2, nd, hlen, hk2, mk, mwl, FR.can, hlk, fun T2 H3 nT2 hT2 s3 => ?_⟩
    obtain ⟨ds, hds, hsh, heq⟩ := due_shape hgc c ws
    refine ⟨_, _, .tup (.inl (.inl (s3 _ _ hT))) (hds _ _), .tup (.inl (.inl hT2)) (hds _ _), hsh, hsh, _, rfl, ?_⟩
    rw [heq]
    refine iteT ?_
    have hdv3 := s3 _ _ (s2.keep _ _ (s1 _ _ hdv) nvd)
    refine ⟨_, rfl, _, rfl, dv, kd, dk ws, dk ws, rfl, rfl, hdv3, s3 _ _ hk2, rfl, ?_, ?_⟩
    · intro q hq
      obtain ⟨e, he, rfl⟩ := List.mem_map.mp hq
      refine ⟨?_, rfl⟩
      show valV (dk ws) (Sum.inr e.1 : Key) = some (V.int e.2)
      rw [valV_dk, lookO_of_mem wnd (k := e.1) (v := e.2) he]
      rfl
    · exact k H3 (((Sd.of s1).trans s2).trans (Sd.of s3))
end
end OS
namespace OS
open PySem L2
/-! ### drawn names, integers, parts -/
theorem StAt.mono {H : Hp} {st cl : Addr} {m n : Nat} (S : StAt H st cl m) (h : m ≤ n) : StAt H st cl n := by
  obtain ⟨⟨p, c, a, b, d⟩, e, f⟩ := S
  exact ⟨⟨p, c, a, b, by omega⟩, e, f⟩
theorem Kb.refl {st cl : Addr} (H : Hp) : Kb st cl H H := fun _ _ e _ _ => e
theorem Kb.trans {st cl : Addr} {H H1 H2 : Hp} (a : Kb st cl H H1) (b : Kb st cl H1 H2) : Kb st cl H H2 := fun x o e h1 h2 => b x o (a x o e h1 h2) h1 h2
theorem Kb.same {st cl : Addr} {H H1 H2 : Hp} (a : Kb st cl H H1) (b : Same H1 H2) : Kb st cl H H2 := fun x o e h1 h2 => b x o (a x o e h1 h2)
theorem Kb.new {st cl D : Addr} {H H1 : Hp} {o : HO} (a : Kb st cl H H1) (h : H D = none) : Kb st cl H (L2.upd H1 D o) := fun x u e h1 h2 => by
  rw [upd_ne (ne_of_none e h)]
  exact a x u e h1 h2
/-- what is free behind draws was free ahead -/
theorem StAt.free {st cl D : Addr} {H H1 : Hp} {m n : Nat} (S : StAt H st cl m) (S1 : StAt H1 st cl n) (a : Kb st cl H H1) (h : H1 D = none) : H D = none := by
  obtain ⟨d1, d2⟩ := S1.nst h
  cases q : H D with
  | none => rfl
  | some o => rw [a D o q d1 d2] at h; cases h
abbrev chS : Str := "abcdefghijklmnopqrstuvwxyz0123456789"
theorem chS_len : chS.cps.toList.length = 36 := by decide +kernel
theorem chS_low : ∀ j : Fin 26, chS.cps.toList[j.val]'(by rw [chS_len]; omega) ∈ lowL.cps.toList := by decide +kernel
theorem chS_ok : ∀ j : Fin 36, chOk (chS.cps.toList[j.val]'(by rw [chS_len]; exact j.isLt)) = true := by decide +kernel
theorem good_of {z : Str} {c : Nat} {r : List Nat} (e : z.cps.toList = c :: r) (hl : r.length ≤ 5) (hc : c ∈ lowL.cps.toList) (hr : ∀ x ∈ r, chOk x = true) (hm : z ≠ "mod") : good z = true := by
  unfold good
  rw [if_neg hm, e, if_neg (by simp; omega)]
  show (if c ∈ lowL.cps.toList then _ else _) = true
  rw [if_pos hc, List.all_cons]
  rw [show chOk c = true by unfold chOk; rw [decide_eq_true hc]; rfl, Bool.true_and]
  exact List.all_eq_true.mpr hr
theorem tl_sign (c : Nat) : TL.tl (⟨#[c]⟩ : Str) = [c] := rfl
def spName : Sp := fun vs H Q _ => ∃ (st cl : Addr) (m : Nat), vs = [.ref st] ∧ StAt H st cl m ∧ m ≤ 900000000 ∧
  ∀ (z : Str) (H' : Hp), good z = true → StAt H' st cl (m + 8) → Kb st cl H H' → Q (.str z) H'
/-- the size of a drawn integer -/
def Bnd (n : Int) : Prop := n.natAbs ≤ 21000000000000000000000000000
def spInt : Sp := fun vs H Q _ => ∃ (st cl : Addr) (m : Nat), vs = [.ref st] ∧ StAt H st cl m ∧ m ≤ 900000000 ∧
  ∀ (n : Int) (H' : Hp), Bnd n → StAt H' st cl (m + 3) → Kb st cl H H' → Q (.int n) H'
/-- drawn parts -/
structure PartsOk (kvs : Cf) (n : Nat) : Prop where
  nd : (kvs.map (·.1)).Nodup
  len : kvs.length ≤ n
  gd : ∀ e ∈ kvs, good e.1 = true
  bd : ∀ e ∈ kvs, Bnd e.2
def spParts : Sp := fun vs H Q _ => ∃ (st cl : Addr) (m : Nat), vs = [.ref st] ∧ StAt H st cl m ∧ m ≤ 800000000 ∧
  ∀ (d : Addr) (kvs : Cf) (H' : Hp), H d = none → H' d = some (.dK (dk kvs)) → PartsOk kvs 4 → StAt H' st cl (m + 100) → Kb st cl H H' → Q (.ref d) H'
section
variable {P : Program} {w : World} {K : PySem.W.Frag} {mg : Str → Option Value} {base : Heap}
abbrev nName : List Str := ["_law_state", "_law_chars", "_law_size", "_law_name_here", "_law_k"]
theorem scName : FnScope nName ["_law_state"] (defScope s_name) := ⟨rfl, rfl, rfl, by decide +kernel, rfl, by decide +kernel, by decide +kernel⟩
theorem ok_name {f fT : Addr} {fd dT : FuncData} (F : Fun K "_law_name" "_law_name" s_name f fd) (mR : mg "range" = none)
    (ET : FnOk P w K mg base CX0 1 fT dT ["_law_state", "_law_limit"] spTake) (GT : Df K mg "_law_take" fT) (bT : Binds K dT ["_law_state", "_law_limit"] []) : FnOk P w K mg base CX0 2 f fd ["_law_state"] spName := by
  refine F.ok scName (fun vs H Q E h => ?_) (fun cdv A outer s H vs Q E hr h => ?_)
  · obtain ⟨st, cl, m, rfl, _⟩ := h
    rfl
  · obtain ⟨st, cl, m, rfl, S, hm, k⟩ := h
    refine ⟨_, pss_cons (ps_set (i := 1) scName.nd rfl (Or.inl rfl) pe_str)
      (pss_cons (ps_set (i := 2) scName.nd rfl (Or.inl rfl) (pe_call ET hr rfl GT.mg GT.kp bT .nil pass0 (pa_cons (pv 0) (pa_cons pe_int pa_nil))))
      (pss_cons (ps_set (i := 3) scName.nd rfl (Or.inl rfl) (pe_ix ix_str (pv 1) (pe_call ET hr rfl GT.mg GT.kp bT .nil pass0 (pa_cons (pv 0) (pa_cons pe_int pa_nil))) fun _ _ => rfl))
      (pss_cons (ps_for PassesOwn.never rfl (pi_range1 rfl mR (pa_cons (pv 2) pa_nil)) (pg_name (i := 4) scName.nd rfl (Or.inl rfl))
        (pss_one (ps_set (i := 3) scName.nd rfl (Or.inl rfl) (pe_op op_add_str (pv 3) (pe_ix ix_str (pv 1) (pe_call ET hr rfl GT.mg GT.kp bT .nil pass0 (pa_cons (pv 0) (pa_cons pe_int pa_nil))) fun _ _ => rfl)))))
      (C8.pss_cut (ps_if (pt_cmpR op_eq (pv 3) pe_str (nomark _)) (pss_one (ps_set (i := 3) scName.nd rfl (Or.inl rfl) pe_str)) pss_nil)
      (pss_one (ps_ret (pv 3))))))), ?_⟩
    have hcl : chS.length ≤ sizeLine := by decide +kernel
    refine ⟨_, rfl, st, cl, m, 6, rfl, S, by omega, by decide, by decide, fun size H1 z0 z1 S1 k1 => ?_⟩
    refine ⟨_, rfl, _, rfl, st, cl, m + 1, 26, rfl, S1, by omega, by decide, by decide, fun c H2 c0 c1 S2 k2 => ?_⟩
    have hc : c.toNat < 26 := by omega
    have hlow := chS_low ⟨c.toNat, hc⟩
    have hci : c.toNat < chS.cps.toList.length := by rw [chS_len]; omega
    refine ⟨chS, _, _, rfl, rfl, hcl, atI_in c0 (List.getElem?_eq_getElem hci), ?_⟩
    refine ⟨_, rfl, _, rfl, by omega, by omega, for_range (lo := 0) (n := size.toNat) (fun i σ H' => ∃ (z : Str) (r : List Nat) (v : Option V), σ = [some (.ref st), some (.str chS), some (.int size), some (.str z), v] ∧ z.cps.toList = (chS.cps.toList[c.toNat]) :: r ∧ r.length = i ∧ (∀ x ∈ r, chOk x = true) ∧ StAt H' st cl (m + 2 + i) ∧ Kb st cl H H')
      ⟨_, [], none, rfl, rfl, rfl, (fun x hx => by cases hx), S2, k1.trans k2⟩ ?_ ?_⟩
    · rintro i σ H3 hi ⟨z, r, v, rfl, hz, hrl, hr', S3, k3⟩
      refine ⟨_, rfl, _, rfl, _, rfl, st, cl, m + 2 + i, 36, rfl, S3, by omega, by decide, by decide, fun e H4 e0 e1 S4 k4 => ?_⟩
      have he : e.toNat < 36 := by omega
      have hok := chS_ok ⟨e.toNat, he⟩
      have hei : e.toNat < chS.cps.toList.length := by rw [chS_len]; omega
      refine ⟨chS, _, _, rfl, rfl, hcl, atI_in e0 (List.getElem?_eq_getElem hei), ?_⟩
      refine ⟨_, _, rfl, rfl, ?_, ?_⟩
      · have : z.length = 1 + i := by rw [Str.len_list, hz, List.length_cons, hrl]; omega
        show z.length + 1 ≤ sizeLine
        exact Nat.le_of_lt (small1000 (by omega))
      · refine ⟨_, r ++ [chS.cps.toList[e.toNat]], _, rfl, ?_, by rw [List.length_append, hrl]; rfl, ?_, S4.mono (by omega), k3.trans k4⟩
        · show TL.tl (z ++ _) = _
          rw [TL.tl_append, tl_sign]
          show z.cps.toList ++ _ = _
          rw [hz]
          rfl
        · intro x hx
          rcases List.mem_append.mp hx with q | q
          · exact hr' x q
          · cases List.mem_singleton.mp q; exact hok
    · rintro σ H3 ⟨z, r, v, rfl, hz, hrl, hr', S3, k3⟩
      refine ⟨fun σ H' => H' = H3 ∧ ∃ z : Str, good z = true ∧ σ = [some (.ref st), some (.str chS), some (.int size), some (.str z), v], ?_, ?_⟩
      · refine ⟨_, rfl, rfl, _, rfl, ?_⟩
        refine ite2 (fun _ => ?_) (fun h => ?_)
        · exact ⟨rfl, _, by decide +kernel, rfl⟩
        · refine ⟨rfl, z, good_of hz (by omega) hlow hr' (fun e => h (decide_eq_true (congrArg V.str e))), rfl⟩
      · rintro σ H4 ⟨rfl, z, hg, rfl⟩
        refine ⟨_, rfl, ?_⟩
        exact k z H4 hg (S3.mono (by omega)) k3
abbrev nInt : List Str := ["_law_state", "_law_plan", "_law_number"]
theorem scInt : FnScope nInt ["_law_state"] (defScope s_integer) := ⟨rfl, rfl, rfl, by decide +kernel, rfl, by decide +kernel, by decide +kernel⟩
theorem ok_int {f fT : Addr} {fd dT : FuncData} (F : Fun K "_law_integer" "_law_integer" s_integer f fd)
    (ET : FnOk P w K mg base CX0 1 fT dT ["_law_state", "_law_limit"] spTake) (GT : Df K mg "_law_take" fT) (bT : Binds K dT ["_law_state", "_law_limit"] []) : FnOk P w K mg base CX0 2 f fd ["_law_state"] spInt := by
  refine F.ok scInt (fun vs H Q E h => ?_) (fun cdv A outer s H vs Q E hr h => ?_)
  · obtain ⟨st, cl, m, rfl, _⟩ := h
    rfl
  · obtain ⟨st, cl, m, rfl, S, hm, k⟩ := h
    refine ⟨_, pss_cons (ps_set (i := 1) scInt.nd rfl (Or.inl rfl) (pe_call ET hr rfl GT.mg GT.kp bT .nil pass0 (pa_cons (pv 0) (pa_cons pe_int pa_nil))))
      (pss_cons (ps_set (i := 2) scInt.nd rfl (Or.inl rfl) (pe_op op_sub (pe_call ET hr rfl GT.mg GT.kp bT .nil pass0 (pa_cons (pv 0) (pa_cons pe_int pa_nil))) pe_int))
      (C8.pss_cut (ps_if (pt_cmpR op_eq (pv 1) pe_int (nomark _)) (pss_one (ps_set (i := 2) scInt.nd rfl (Or.inl rfl) (pe_op op_sub (pe_call ET hr rfl GT.mg GT.kp bT .nil pass0 (pa_cons (pv 0) (pa_cons pe_int pa_nil))) pe_int))) pss_nil)
      (C8.pss_cut (ps_if (pt_cmpR op_eq (pv 1) pe_int (nomark _)) (pss_one (ps_set (i := 2) scInt.nd rfl (Or.inl rfl) (pe_op op_sub (pe_op op_add (pe_op op_mul (pv 2) (pe_op op_pow pe_int pe_int)) (pe_call ET hr rfl GT.mg GT.kp bT .nil pass0 (pa_cons (pv 0) (pa_cons pe_int pa_nil)))) pe_int))) pss_nil)
      (pss_one (ps_ret (pv 2)))))), ?_⟩
    refine ⟨_, rfl, st, cl, m, 4, rfl, S, by omega, by decide, by decide, fun plan H1 p0 p1 S1 k1 => ?_⟩
    refine ⟨_, rfl, st, cl, m + 1, 41, rfl, S1, by omega, by decide, by decide, fun a H2 a0 a1 S2 k2 => ?_⟩
    refine ⟨_, _, rfl, rfl, ?_⟩
    refine ⟨fun σ H' => ∃ n : Int, -20 ≤ n ∧ n ≤ 20 ∧ σ = [some (.ref st), some (.int plan), some (.int n)] ∧ Kb st cl H H' ∧ ((plan ≠ 0 ∧ StAt H' st cl (m + 2)) ∨ (plan = 0 ∧ StAt H' st cl (m + 3))), ?_, ?_⟩
    · refine ⟨_, rfl, rfl, _, rfl, ?_⟩
      refine ite2 (fun h => ?_) (fun h => ?_)
      · have hp : plan = 0 := V.int.inj (of_decide_eq_true h)
        refine ⟨_, rfl, st, cl, m + 2, 3, rfl, S2, by omega, by decide, by decide, fun b H3 b0 b1 S3 k3 => ?_⟩
        refine ⟨_, _, rfl, rfl, ?_⟩
        exact ⟨_, by show -20 ≤ b - 1; omega, by show b - 1 ≤ 20; omega, rfl, (k1.trans k2).trans k3, .inr ⟨hp, S3⟩⟩
      · have hp : plan ≠ 0 := fun e => h (decide_eq_true (congrArg V.int e))
        exact ⟨_, by show -20 ≤ a - 20; omega, by show a - 20 ≤ 20; omega, rfl, k1.trans k2, .inl ⟨hp, S2⟩⟩
    rintro σ3 H3 ⟨n, n0, n1, rfl, k3, hS⟩
    refine ⟨fun σ H' => ∃ n : Int, Bnd n ∧ σ = [some (.ref st), some (.int plan), some (.int n)] ∧ Kb st cl H H' ∧ StAt H' st cl (m + 3), ?_, ?_⟩
    · refine ⟨_, rfl, rfl, _, rfl, ?_⟩
      refine ite2 (fun h => ?_) (fun h => ?_)
      · have hp : plan = 3 := V.int.inj (of_decide_eq_true h)
        have S3 : StAt H3 st cl (m + 2) := by
          rcases hS with ⟨_, S⟩ | ⟨e, _⟩
          · exact S
          · omega
        refine ⟨_, rfl, _, _, rfl, rfl, ⟨by decide, by decide, by decide⟩, _, _, rfl, rfl, .inl ⟨by omega, by omega⟩, ?_⟩
        refine ⟨_, rfl, st, cl, m + 2, 2000001, rfl, S3, by omega, by decide, by decide, fun b H4 b0 b1 S4 k4 => ?_⟩
        refine ⟨_, _, rfl, rfl, _, _, rfl, rfl, ?_⟩
        refine ⟨_, ?_, rfl, k3.trans k4, S4⟩
        have e10 : ((10 : Int) ^ (27 : Int).toNat) = 1000000000000000000000000000 := by decide
        show (n * ((10 : Int) ^ (27 : Int).toNat) + b - 1000000).natAbs ≤ 21000000000000000000000000000
        rw [e10]
        omega
      · refine ⟨_, ?_, rfl, k3, ?_⟩
        · show n.natAbs ≤ 21000000000000000000000000000
          omega
        · rcases hS with ⟨_, S⟩ | ⟨_, S⟩
          · exact S.mono (by omega)
          · exact S
    · rintro σ4 H4 ⟨n, hb, rfl, k4, S4⟩
      refine ⟨_, rfl, ?_⟩
      exact k n H4 hb S4 k4
abbrev nParts : List Str := ["_law_state", "_law_parts_here", "_law_k", "_law_name_here"]
theorem scParts : FnScope nParts ["_law_state"] (defScope s_parts) := ⟨rfl, rfl, rfl, by decide +kernel, rfl, by decide +kernel, by decide +kernel⟩
theorem ok_parts {f fT fN fI : Addr} {fd dT dN dI : FuncData} (F : Fun K "_law_parts" "_law_parts" s_parts f fd) (mR : mg "range" = none)
    (ET : FnOk P w K mg base CX0 1 fT dT ["_law_state", "_law_limit"] spTake) (GT : Df K mg "_law_take" fT) (bT : Binds K dT ["_law_state", "_law_limit"] [])
    (EN : FnOk P w K mg base CX0 2 fN dN ["_law_state"] spName) (GN : Df K mg "_law_name" fN) (bN : Binds K dN ["_law_state"] [])
    (EI : FnOk P w K mg base CX0 2 fI dI ["_law_state"] spInt) (GI : Df K mg "_law_integer" fI) (bI : Binds K dI ["_law_state"] []) : FnOk P w K mg base CX0 3 f fd ["_law_state"] spParts := by
  refine F.ok scParts (fun vs H Q E h => ?_) (fun cdv A outer s H vs Q E hr h => ?_)
  · obtain ⟨st, cl, m, rfl, _⟩ := h
    rfl
  · obtain ⟨st, cl, m, rfl, S, hm, k⟩ := h
    have hu := hu_of hr
    have hr1 : Room 1 _ := hr.mono (by decide)
    refine ⟨_, pss_cons (ps_set (i := 1) scParts.nd rfl (Or.inl rfl) pe_dnewK)
      (pss_cons (ps_for PassesOwn.never rfl (pi_range1 rfl mR (pa_cons (pe_call ET hr1 rfl GT.mg GT.kp bT .nil pass0 (pa_cons (pv 0) (pa_cons pe_int pa_nil))) pa_nil)) (pg_name (i := 2) scParts.nd rfl (Or.inl rfl))
        (pss_cons (ps_set (i := 3) scParts.nd rfl (Or.inl rfl) (pe_ix ix_list (pe_lst (pa_cons pe_str (pa_cons pe_str (pa_cons pe_str (pa_cons pe_str (pa_cons pe_str (pa_cons pe_str pa_nil)))))))
            (pe_call ET hr1 rfl GT.mg GT.kp bT .nil pass0 (pa_cons (pv 0) (pa_cons pe_int pa_nil))) fun _ _ => rfl))
        (C8.pss_cut (ps_if (pt_cmpR op_eq (pe_call ET hr1 rfl GT.mg GT.kp bT .nil pass0 (pa_cons (pv 0) (pa_cons pe_int pa_nil))) pe_int (nomark _)) (pss_one (ps_set (i := 3) scParts.nd rfl (Or.inl rfl) (pe_call EN hr rfl GN.mg GN.kp bN .nil pass0 (pa_cons (pv 0) pa_nil)))) pss_nil)
        (pss_one (ps_dput hu (pv 1) (pv 3) (pe_call EI hr rfl GI.mg GI.kp bI .nil pass0 (pa_cons (pv 0) pa_nil)) rfl)))))
      (pss_one (ps_ret (pv 1)))), ?_⟩
    intro d hd
    obtain ⟨d1, d2⟩ := S.nst hd
    have S0 : StAt (upd H d (.dK [])) st cl m := S.upd d1 d2
    refine ⟨_, rfl, st, cl, m, 5, rfl, S0, by omega, by decide, by decide, fun size H1 z0 z1 S1 k1 => ?_⟩
    have k01 : Kb st cl H H1 := ((Kb.refl H).new hd).trans k1
    refine ⟨_, rfl, by omega, by omega, for_range (lo := 0) (n := size.toNat) (fun i σ H' => ∃ (kvs : Cf) (v w : Option V), σ = [some (.ref st), some (.ref d), v, w] ∧ H' d = some (.dK (dk kvs)) ∧ PartsOk kvs i ∧ StAt H' st cl (m + 1 + 20 * i) ∧ Kb st cl H H')
      ⟨[], none, none, rfl, k1 _ _ upd_same d1 d2, ⟨List.nodup_nil, Nat.le_refl _, (fun e he => by cases he), fun e he => by cases he⟩, S1, k01⟩ ?_ ?_⟩
    · rintro i σ H2 hi ⟨kvs, v, w', rfl, hd2, PO, S2, k2⟩
      have hi4 : i < 4 := by omega
      refine ⟨by show 6 ≤ sizeLine; decide, fun L hL => ?_⟩
      obtain ⟨L1, L2⟩ := S2.nst hL
      have hdL : d ≠ L := ne_of_none hd2 hL
      have hLn : H L = none := S.free S2 k2 hL
      refine ⟨_, rfl, st, cl, _, 6, rfl, S2.upd L1 L2, by omega, by decide, by decide, fun c H3 c0 c1 S3 k3 => ?_⟩
      obtain ⟨nm, hnm, hng⟩ : ∃ nm : Str, ([V.str "x", V.str "y", V.str "x1", V.str "ab", V.str "abc", V.str "z"] : List V)[c.toNat]? = some (V.str nm) ∧ good nm = true := by
        have hc : c.toNat < 6 := by omega
        generalize c.toNat = j at hc
        match j, hc with
        | 0, _ => exact ⟨_, rfl, by decide +kernel⟩
        | 1, _ => exact ⟨_, rfl, by decide +kernel⟩
        | 2, _ => exact ⟨_, rfl, by decide +kernel⟩
        | 3, _ => exact ⟨_, rfl, by decide +kernel⟩
        | 4, _ => exact ⟨_, rfl, by decide +kernel⟩
        | 5, _ => exact ⟨_, rfl, by decide +kernel⟩
      have hL3 : H3 L = _ := k3 L _ upd_same L1 L2
      have hd3 : H3 d = some (.dK (dk kvs)) := k3 d _ (by rw [upd_ne hdL]; exact hd2) d1 d2
      have k03 : Kb st cl H H3 := (k2.new hLn).trans k3
      refine ⟨L, _, _, V.str nm, rfl, rfl, SqL.of hL3, atI_in c0 hnm, ?_⟩
      refine ⟨fun σ H' => ∃ nm : Str, good nm = true ∧ (∃ v, σ = [some (.ref st), some (.ref d), v, some (.str nm)]) ∧ H' d = some (.dK (dk kvs)) ∧ StAt H' st cl (m + 1 + 20 * i + 10) ∧ Kb st cl H H', ?_, ?_⟩
      · refine ⟨_, rfl, st, cl, _, 4, rfl, S3, by omega, by decide, by decide, fun b H4 b0 b1 S4 k4 => ?_⟩
        refine ⟨rfl, _, rfl, ?_⟩
        have hd4 := k4 d _ hd3 d1 d2
        refine ite2 (fun _ => ?_) (fun _ => ?_)
        · refine ⟨_, rfl, st, cl, _, rfl, S4, by omega, fun z H5 hz S5 k5 => ?_⟩
          exact ⟨z, hz, ⟨_, rfl⟩, k5 d _ hd4 d1 d2, S5.mono (by omega), (k03.trans k4).trans k5⟩
        · exact ⟨nm, hng, ⟨_, rfl⟩, hd4, S4.mono (by omega), k03.trans k4⟩
      · rintro σ H4 ⟨nm, hg, ⟨v', rfl⟩, hd4, S4, k4⟩
        refine ⟨_, rfl, st, cl, _, rfl, S4, by omega, fun n H5 hb S5 k5 => ?_⟩
        have hd5 := k5 d _ hd4 d1 d2
        refine ⟨_, rfl, _, rfl, d, _, rfl, DPut.k (k := Sum.inr nm) hd5 (by rw [dk_len]; exact small1000 (by have := PO.len; omega)), ?_⟩
        refine ⟨putC kvs nm n, _, _, rfl, ?_, ⟨putC_nd PO.nd, ?_, ?_, ?_⟩, (S5.upd d1 d2).mono (by omega), (k4.trans k5).new hd⟩
        · rw [upd_same, dk_put]
        · have := putC_len kvs nm n
          have := PO.len
          omega
        · intro e he
          rcases putC_mem he with q | q
          · rw [q]; exact hg
          · exact PO.gd e q
        · intro e he
          rcases putC_mem he with q | q
          · rw [q]; exact hb
          · exact PO.bd e q
    · rintro σ H2 ⟨kvs, v, w', rfl, hd2, PO, S2, k2⟩
      refine ⟨_, rfl, ?_⟩
      exact k d kvs H2 hd hd2 ⟨PO.nd, by have := PO.len; omega, PO.gd, PO.bd⟩ (S2.mono (by omega)) k2
end
end OS
namespace OS
open PySem L2
theorem Bnd.mid {n : Int} (h : Bnd n) : Mid n := by
  unfold Bnd at h
  unfold Mid
  exact Nat.lt_of_le_of_lt h (by decide +kernel)
structure VOk (ws : Cf) (n : Nat) : Prop where
  nd : (ws.map (·.1)).Nodup
  len : ws.length ≤ n
  mid : ∀ e ∈ ws, Bnd e.2
structure VMk (ws : Cf) (n : Nat) : Prop where
  nd : (ws.map (·.1)).Nodup
  len : ws.length ≤ n
  mid : ∀ e ∈ ws, Mid e.2
theorem VOk.toM {ws : Cf} {n : Nat} (h : VOk ws n) : VMk ws n := ⟨h.nd, h.len, fun e he => (h.mid e he).mid⟩
theorem VMk.put {ws : Cf} {n : Nat} {k : Str} {v : Int} (h : VMk ws n) (hv : Mid v) : VMk (putC ws k v) (n + 1) :=
  ⟨putC_nd h.nd, Nat.le_trans (putC_len _ _ _) (Nat.succ_le_succ h.len), fun e he => by
    rcases putC_mem he with q | q
    · rw [q]; exact hv
    · exact h.mid e q⟩
theorem VMk.mono {ws : Cf} {m n : Nat} (h : VMk ws m) (hm : m ≤ n) : VMk ws n := ⟨h.nd, Nat.le_trans h.len hm, h.mid⟩
theorem VOk.put {ws : Cf} {n : Nat} {k : Str} {v : Int} (h : VOk ws n) (hv : Bnd v) : VOk (putC ws k v) (n + 1) :=
  ⟨putC_nd h.nd, Nat.le_trans (putC_len _ _ _) (Nat.succ_le_succ h.len), fun e he => by
    rcases putC_mem he with q | q
    · rw [q]; exact hv
    · exact h.mid e q⟩
theorem VOk.mono {ws : Cf} {m n : Nat} (h : VOk ws m) (hm : m ≤ n) : VOk ws n := ⟨h.nd, Nat.le_trans h.len hm, h.mid⟩
structure N4 (pd f1 f2 : Addr) : Prop where
  a : f1 ≠ f2
  b : pd ≠ f1
  c : pd ≠ f2
structure Q4 (H : Hp) (st cl pd f1 f2 L : Addr) (kvs ws1 ws2 : Cf) (ns : List Str) (m : Nat) : Prop where
  S : StAt H st cl m
  p : H pd = some (.dK (dk kvs))
  e1 : H f1 = some (.dK (dk ws1))
  e2 : H f2 = some (.dK (dk ws2))
  l : H L = some (.lst (ns.map V.str))
  l1 : L ≠ st
  l2 : L ≠ cl
theorem StAt.ned {H : Hp} {st cl d : Addr} {m : Nat} {kvs : List (Key × V)} (S : StAt H st cl m) (h : H d = some (.dK kvs)) : d ≠ st ∧ d ≠ cl := by
  obtain ⟨⟨q, c', e1, _⟩, ⟨ns, e2, _⟩, _⟩ := S
  exact ⟨ne_of h e1 (by intro z; cases z), ne_of h e2 (by intro z; cases z)⟩
section
variable {H H' : Hp} {st cl pd f1 f2 L : Addr} {kvs ws1 ws2 : Cf} {ns : List Str} {m m' : Nat}
theorem Q4.take (q : Q4 H st cl pd f1 f2 L kvs ws1 ws2 ns m) (k : Kb st cl H H') (S : StAt H' st cl m') : Q4 H' st cl pd f1 f2 L kvs ws1 ws2 ns m' := by
  obtain ⟨S0, p, e1, e2, l, l1, l2⟩ := q
  have a := S0.ned p
  have b := S0.ned e1
  have c := S0.ned e2
  exact ⟨S, k _ _ p a.1 a.2, k _ _ e1 b.1 b.2, k _ _ e2 c.1 c.2, k _ _ l l1 l2, l1, l2⟩
theorem Q4.same (q : Q4 H st cl pd f1 f2 L kvs ws1 ws2 ns m) (s : Same H H') : Q4 H' st cl pd f1 f2 L kvs ws1 ws2 ns m := by
  obtain ⟨S0, p, e1, e2, l, l1, l2⟩ := q
  exact ⟨S0.same s, s _ _ p, s _ _ e1, s _ _ e2, s _ _ l, l1, l2⟩
theorem Q4.mono (q : Q4 H st cl pd f1 f2 L kvs ws1 ws2 ns m) (h : m ≤ m') : Q4 H st cl pd f1 f2 L kvs ws1 ws2 ns m' := by
  obtain ⟨S0, p, e1, e2, l, l1, l2⟩ := q
  exact ⟨S0.mono h, p, e1, e2, l, l1, l2⟩
theorem Q4.put1 {ws : Cf} (q : Q4 H st cl pd f1 f2 L kvs ws1 ws2 ns m) (n : N4 pd f1 f2) : Q4 (L2.upd H f1 (.dK (dk ws))) st cl pd f1 f2 L kvs ws ws2 ns m := by
  obtain ⟨S0, p, e1, e2, l, l1, l2⟩ := q
  have b := S0.ned e1
  refine ⟨S0.upd b.1 b.2, ?_, upd_same, ?_, ?_, l1, l2⟩
  · rw [upd_ne n.b]; exact p
  · rw [upd_ne n.a.symm]; exact e2
  · rw [upd_ne (ne_of l e1 (by intro z; cases z))]; exact l
theorem Q4.put2 {ws : Cf} (q : Q4 H st cl pd f1 f2 L kvs ws1 ws2 ns m) (n : N4 pd f1 f2) : Q4 (L2.upd H f2 (.dK (dk ws))) st cl pd f1 f2 L kvs ws1 ws ns m := by
  obtain ⟨S0, p, e1, e2, l, l1, l2⟩ := q
  have b := S0.ned e2
  refine ⟨S0.upd b.1 b.2, ?_, ?_, upd_same, ?_, l1, l2⟩
  · rw [upd_ne n.c]; exact p
  · rw [upd_ne n.a]; exact e1
  · rw [upd_ne (ne_of l e2 (by intro z; cases z))]; exact l
/-- the dict of the form stands apart -/
structure Apart (d st cl pd f1 f2 L : Addr) : Prop where
  s : st ≠ d
  c : cl ≠ d
  p : pd ≠ d
  a : f1 ≠ d
  b : f2 ≠ d
  l : L ≠ d
theorem Q4.sd {d : Addr} (q : Q4 H st cl pd f1 f2 L kvs ws1 ws2 ns m) (A : Apart d st cl pd f1 f2 L) (s : Sd d H H') : Q4 H' st cl pd f1 f2 L kvs ws1 ws2 ns m := by
  obtain ⟨⟨⟨q, c', g1, g2⟩, ⟨zs, g3, g4⟩, g5⟩, p, e1, e2, l, l1, l2⟩ := q
  exact ⟨⟨⟨q, c', s.keep _ _ g1 A.s, g2⟩, ⟨zs, s.keep _ _ g3 A.c, g4⟩, g5⟩, s.keep _ _ p A.p, s.keep _ _ e1 A.a, s.keep _ _ e2 A.b, s.keep _ _ l A.l, l1, l2⟩
theorem Q4.apart {d : Addr} (q : Q4 H st cl pd f1 f2 L kvs ws1 ws2 ns m) (h : H d = none) : Apart d st cl pd f1 f2 L := by
  obtain ⟨⟨⟨q, c', g1, g2⟩, ⟨zs, g3, g4⟩, g5⟩, p, e1, e2, l, l1, l2⟩ := q
  exact ⟨ne_of_none g1 h, ne_of_none g3 h, ne_of_none p h, ne_of_none e1 h, ne_of_none e2 h, ne_of_none l h⟩
end
/-- a form read behind draws and stores elsewhere -/
theorem FormR.but {C : Addr} {H H' : Hp} {p d : Addr} {cs : Cf} {c : Int} (F : FormR C H p d cs c) (s : ∀ b o, H b = some o → (b = p ∨ b = d) → H' b = some o) : FormR C H' p d cs c := by
  obtain ⟨⟨dx, a⟩, b, k, l⟩ := F
  refine ⟨⟨dx, s _ _ a (.inl rfl)⟩, ?_, k, l⟩
  rcases b with b | ⟨o, b⟩
  · exact .inl (s _ _ b (.inr rfl))
  · exact .inr ⟨o, s _ _ b (.inr rfl)⟩
section
variable {P : Program} {w : World} {K : PySem.W.Frag} {mg : Str → Option Value} {base : Heap}
abbrev nLaw : List Str := ["_law_script", "_law_state", "_law_parts_here", "_law_offset", "_law_plan", "_law_first", "_law_second", "_law_names", "_law_name_here", "_law_k", "_law_form", "_law_values", "_law_spot", "_law_number"]
theorem scLaw : FnScope nLaw ["_law_script"] (defScope sLaw) := ⟨rfl, rfl, rfl, by decide +kernel, rfl, by decide +kernel, by decide +kernel⟩
theorem ok_law {f fS fT fP fI fF fR C : Addr} {fd dS dT dP dI dF dR : FuncData} (F : Fun K "law" "law" sLaw f fd) (mD : mg "dict" = none) (mR : mg "range" = none) (mL : mg "len" = none) (mC : mg "Form" = some (.ref C))
    (ES : FnOk P w K mg base CX0 1 fS dS ["_law_script"] (spStart K)) (GS : Df K mg "_law_start" fS) (bS : Binds K dS ["_law_script"] [])
    (ET : FnOk P w K mg base CX0 1 fT dT ["_law_state", "_law_limit"] spTake) (GT : Df K mg "_law_take" fT) (bT : Binds K dT ["_law_state", "_law_limit"] [])
    (EP : FnOk P w K mg base CX0 3 fP dP ["_law_state"] spParts) (GP : Df K mg "_law_parts" fP) (bP : Binds K dP ["_law_state"] [])
    (EI : FnOk P w K mg base CX0 2 fI dI ["_law_state"] spInt) (GI : Df K mg "_law_integer" fI) (bI : Binds K dI ["_law_state"] [])
    (M : Mk K C fF) (EF : FnOk P w K mg base CX0 2 fF dF ["self", "coefficients", "constant"] (spInit C)) (bF : Binds K dF ["self", "coefficients", "constant"] [])
    (ER : FnOk P w K mg base CX0 5 fR dR ["_law_form", "_law_parts_here", "_law_offset", "_law_values"] (spRight C)) (GR : Df K mg "_law_right" fR) (bR : Binds K dR ["_law_form", "_law_parts_here", "_law_offset", "_law_values"] []) :
    FnOk P w K mg base CX0 6 f fd ["_law_script"] (spLaw K) := by
  refine F.ok scLaw (fun vs H Q E h => ?_) (fun cdv A outer s H vs Q E hr h => ?_)
  · obtain ⟨a, ns, rfl, _⟩ := h
    rfl
  · obtain ⟨a, ns0, rfl, hS, hn, k⟩ := h
    have hu := hu_of hr
    have hr1 : Room 1 _ := hr.mono (by decide)
    have hr2 : Room 2 _ := hr.mono (by decide)
    have hr3 : Room 3 _ := hr.mono (by decide)
    have hr5 : Room 5 _ := hr
    refine ⟨_, pss_cons (ps_set (i := 1) scLaw.nd rfl (Or.inl rfl) (pe_call ES hr1 rfl GS.mg GS.kp bS .nil pass0 (pa_cons (pv 0) pa_nil)))
      (pss_cons (ps_set (i := 2) scLaw.nd rfl (Or.inl rfl) (pe_call EP hr3 rfl GP.mg GP.kp bP .nil pass0 (pa_cons (pv 1) pa_nil)))
      (pss_cons (ps_set (i := 3) scLaw.nd rfl (Or.inl rfl) (pe_call EI hr2 rfl GI.mg GI.kp bI .nil pass0 (pa_cons (pv 1) pa_nil)))
      (pss_cons (ps_set (i := 4) scLaw.nd rfl (Or.inl rfl) (pe_call ET hr1 rfl GT.mg GT.kp bT .nil pass0 (pa_cons (pv 1) (pa_cons pe_int pa_nil))))
      (pss_cons (ps_set (i := 5) scLaw.nd rfl (Or.inl rfl) pe_dnewK)
      (pss_cons (ps_set (i := 6) scLaw.nd rfl (Or.inl rfl) pe_dnewK)
      (pss_cons (ps_lock (ps_setLc (i := 7) (own := [("_law_name_here", 8)]) (g := gName 8) (tt := tYes) rfl scLaw.nd rfl rfl (sw_true rfl rfl rfl (by decide +kernel)) (pi_keys (pv 2)) (blkOk_by (own := [("_law_name_here", 8)]) (N := nLaw) (sc := defScope sLaw) (by decide +kernel))
          (fun _ _ _ _ _ => pg_name (i := 8) scLaw.nd rfl (Or.inl rfl)) (fun _ _ _ _ _ => pts_nil) (fun _ _ _ _ _ => pv 8)))
      (C8.pss_cut (ps_if (pt_cmpR op_eq (pe_call ET hr1 rfl GT.mg GT.kp bT .nil pass0 (pa_cons (pv 1) (pa_cons pe_int pa_nil))) pe_int (nomark _)) (pss_one (ps_set (i := 7) scLaw.nd rfl (Or.inl rfl) (pe_revL (pv 7)))) pss_nil)
      (pss_cons (ps_for PassesOwn.never rfl (pi_list (pv 7)) (pg_name (i := 8) scLaw.nd rfl (Or.inl rfl))
        (pss_cons (ps_dput hu (pv 6) (pv 8) (pe_call EI hr2 rfl GI.mg GI.kp bI .nil pass0 (pa_cons (pv 1) pa_nil)) rfl)
        (pss_one (ps_if (PW.pt (pw_or (pt_cmpR op_eq (pv 4) pe_int (nomark _)) (pw_or1 (pt_cmpR op_eq (pe_call ET hr1 rfl GT.mg GT.kp bT .nil pass0 (pa_cons (pv 1) (pa_cons pe_int pa_nil))) pe_int (nomark _)))))
          (pss_one (ps_dput hu (pv 5) (pv 8) (pe_call EI hr2 rfl GI.mg GI.kp bI .nil pass0 (pa_cons (pv 1) pa_nil)) rfl)) pss_nil))))
      (pss_cons (ps_for PassesOwn.never rfl (pi_range1 rfl mR (pa_cons (pe_call ET hr1 rfl GT.mg GT.kp bT .nil pass0 (pa_cons (pv 1) (pa_cons pe_int pa_nil))) pa_nil)) (pg_name (i := 9) scLaw.nd rfl (Or.inl rfl))
        (pss_one (ps_dput hu (pv 5) (pe_ix ix_list (pe_lst (pa_cons pe_str (pa_cons pe_str (pa_cons pe_str pa_nil)))) (pe_call ET hr1 rfl GT.mg GT.kp bT .nil pass0 (pa_cons (pv 1) (pa_cons pe_int pa_nil))) fun _ _ => rfl) (pe_call EI hr2 rfl GI.mg GI.kp bI .nil pass0 (pa_cons (pv 1) pa_nil)) rfl)))
      (pss_cons (ps_set (i := 10) scLaw.nd rfl (Or.inl rfl) (pe_make M EF hr3 rfl mC bF .nil pass0 (pa_cons (pe_callTy call_dictD (by rfl) mD (by decide +kernel) (pa_cons (pv 2) pa_nil)) (pa_cons (pv 3) pa_nil))))
      (pss_cons (ps_for PassesOwn.never rfl (pi_list (pe_lst (pa_cons (pv 5) (pa_cons (pv 6) (pa_cons (pv 5) pa_nil))))) (pg_name (i := 11) scLaw.nd rfl (Or.inl rfl))
        (pss_one (ps_if (pt_not (pt_val (pe_call ER hr5 rfl GR.mg GR.kp bR .nil pass0 (pa_cons (pv 10) (pa_cons (pv 2) (pa_cons (pv 3) (pa_cons (pv 11) pa_nil))))))) (pss_one (ps_ret pe_bl)) pss_nil)))
      (pss_cons (ps_lock (ps_for PassesOwn.never rfl (pi_keys (pv 6)) (pg_name (i := 8) scLaw.nd rfl (Or.inl rfl)) (pss_one (ps_dput hu (pv 5) (pv 8) (pe_dget hu (pv 6) (pv 8) (fun _ _ => rfl)) rfl))))
      (pss_cons (ps_if (pt_not (pt_val (pe_call ER hr5 rfl GR.mg GR.kp bR .nil pass0 (pa_cons (pv 10) (pa_cons (pv 2) (pa_cons (pv 3) (pa_cons (pv 5) pa_nil))))))) (pss_one (ps_ret pe_bl)) pss_nil)
      (C8.pss_cut (ps_if (pt_truth (pv 7) (by intro _; rfl))
        (pss_cons (ps_set (i := 12) scLaw.nd rfl (Or.inl rfl) (pe_ix ix_list (pv 7) (pe_call ET hr1 rfl GT.mg GT.kp bT .nil pass0 (pa_cons (pv 1) (pa_cons (pe_callB call_len_seq (by rfl) mL PySem.boot_len (pa_cons (pv 7) pa_nil)) pa_nil))) fun _ _ => rfl))
        (pss_cons (ps_set (i := 13) scLaw.nd rfl (Or.inl rfl) (pe_dpop1 (pv 5) (pv 12) ⟨rfl, rfl, rfl, rfl⟩))
        (pss_cons (ps_if (pt_not (pt_val (pe_call ER hr5 rfl GR.mg GR.kp bR .nil pass0 (pa_cons (pv 10) (pa_cons (pv 2) (pa_cons (pv 3) (pa_cons (pv 5) pa_nil))))))) (pss_one (ps_ret pe_bl)) pss_nil)
        (pss_one (ps_dput hu (pv 5) (pv 12) (pe_op op_add (pv 13) pe_int) rfl))))) pss_nil)
      (pss_one (ps_ret (pe_and (pe_call ER hr5 rfl GR.mg GR.kp bR .nil pass0 (pa_cons (pv 10) (pa_cons (pv 2) (pa_cons (pv 3) (pa_cons (pv 5) pa_nil))))) (pe_one (pe_call ER hr5 rfl GR.mg GR.kp bR .nil pass0 (pa_cons (pv 10) (pa_cons (pv 2) (pa_cons (pv 3) (pa_cons (pv 6) pa_nil))))))))))))))))))))))), ?_⟩
    refine ⟨_, rfl, a, ns0, rfl, hS, hn, fun st cl H1 S1 _ _ _ => ?_⟩
    refine ⟨_, rfl, st, cl, 0, rfl, S1, by decide, fun pd kvs H2 nd hd2 PO S2 k2 => ?_⟩
    have PK : ∀ e ∈ kvs, Mid e.2 := fun e he => (PO.bd e he).mid
    have klen : kvs.length < 64 := by have := PO.len; omega
    refine ⟨_, rfl, st, cl, _, rfl, S2, by decide, fun c H3 hb S3 k3 => ?_⟩
    have hd3 := k3 pd _ hd2 (S2.ned hd2).1 (S2.ned hd2).2
    refine ⟨_, rfl, st, cl, _, 3, rfl, S3, by decide, by decide, by decide, fun plan H4 _ _ S4 k4 => ?_⟩
    have hd4 := k4 pd _ hd3 (S3.ned hd3).1 (S3.ned hd3).2
    intro f1 n1
    have S5 := S4.upd (o := HO.dK []) (S4.nst n1).1 (S4.nst n1).2
    have hd5 : (L2.upd H4 f1 (.dK [])) pd = some (.dK (dk kvs)) := by rw [upd_ne (ne_of_none hd4 n1)]; exact hd4
    intro f2 n2
    have n21 : f1 ≠ f2 := ne_of_none upd_same n2
    have NN : N4 pd f1 f2 := ⟨n21, ne_of_none hd4 n1, ne_of_none hd5 n2⟩
    obtain ⟨H6, hH6⟩ : ∃ H6, H6 = L2.upd (L2.upd H4 f1 (.dK [])) f2 (.dK []) := ⟨_, rfl⟩
    rw [← hH6]
    have S6 : StAt H6 st cl (0 + 100 + 3 + 1) := by rw [hH6]; exact S5.upd (S5.nst n2).1 (S5.nst n2).2
    have hd6 : H6 pd = some (.dK (dk kvs)) := by rw [hH6, upd_ne NN.c]; exact hd5
    have e16 : H6 f1 = some (.dK (dk [])) := by rw [hH6, upd_ne n21]; exact upd_same
    have e26 : H6 f2 = some (.dK (dk [])) := by rw [hH6]; exact upd_same
    -- names
    refine ⟨pd, _, hd6, trivial, fun od => ?_⟩
    obtain ⟨H7, hH7⟩ : ∃ H7, H7 = L2.upd H6 pd (.frz od (.dK (dk kvs))) := ⟨_, rfl⟩
    rw [← hH7]
    have hp7 : H7 pd = some (.frz od (.dK (dk kvs))) := by rw [hH7]; exact upd_same
    refine ⟨_, rfl, pd, od, rfl, .inl ⟨_, hp7, fun L0 hL0 => ?_⟩⟩
    refine lc_it walk_keys (fun i H' => Same H7 H' ∧ H' L0 = some (.lst (((kvs.take i).map (·.1)).map V.str))) ⟨sameUpd (Same.refl _) hL0, by rw [upd_same]; rfl⟩ (fun i H' _ h => h.1 _ _ hp7) ?_ ?_
    · rintro i x H8 H9 hi ⟨s8, e8⟩ ⟨rfl, k', v', hkv, rfl⟩
      rw [dk_len] at hi
      have he : (dk kvs)[i]? = some (Sum.inr (kvs[i]).1, V.int (kvs[i]).2) := by
        unfold dk
        rw [List.getElem?_map, List.getElem?_eq_getElem hi]
        rfl
      rw [he] at hkv
      cases hkv
      refine ⟨rfl, ?_⟩
      refine ⟨_, rfl, _, e8, ?_, sameUpd s8 hL0, ?_⟩
      · rw [List.length_map, List.length_map, List.length_take]
        exact small1000 (by omega)
      · rw [upd_same, List.take_succ, List.getElem?_eq_getElem hi, List.map_append, List.map_append]
        rfl
    rintro H8 ⟨s8, e8⟩
    rw [dk_len, List.take_length] at e8
    refine ⟨s8 _ _ hp7, ?_⟩
    obtain ⟨H9, hH9⟩ : ∃ H9, H9 = L2.upd H8 pd (.dK (dk kvs)) := ⟨_, rfl⟩
    rw [← hH9]
    have k69 : Same H6 H9 := by
      intro b o e
      rw [hH9]
      by_cases q : b = pd
      · rw [q, upd_same, ← hd6, ← e, q]
      · rw [upd_ne q]
        exact s8 _ _ (by rw [hH7, upd_ne q]; exact e)
    have nL0p : L0 ≠ pd := (ne_of_none hp7 hL0).symm
    have hL06 : H6 L0 = none := by
      rw [hH7, upd_ne nL0p] at hL0
      exact hL0
    have Q9 : Q4 H9 st cl pd f1 f2 L0 kvs [] [] (kvs.map (·.1)) 104 := ⟨(S6.mono (by omega)).same k69, k69 _ _ hd6, k69 _ _ e16, k69 _ _ e26, by rw [hH9, upd_ne nL0p]; exact e8, (S6.nst hL06).1, (S6.nst hL06).2⟩
    -- perhaps the other way round
    refine ⟨fun σ H' => ∃ (L : Addr) (ns : List Str), ns.Nodup ∧ ns.length ≤ 4 ∧ σ = [some (.ref a), some (.ref st), some (.ref pd), some (.int c), some (.int plan), some (.ref f1), some (.ref f2), some (.ref L), none, none, none, none, none, none] ∧ Q4 H' st cl pd f1 f2 L kvs [] [] ns 105, ?_, ?_⟩
    · refine ⟨_, rfl, st, cl, _, 2, rfl, Q9.S, by decide, by decide, by decide, fun b H10 _ _ S10 k10 => ?_⟩
      have Q10 := Q9.take k10 S10
      refine ⟨rfl, _, rfl, ?_⟩
      have hl4 : (kvs.map (·.1)).length ≤ 4 := by rw [List.length_map]; exact PO.len
      refine ite2 (fun _ => ?_) (fun _ => ?_)
      · refine ⟨_, rfl, L0, _, rfl, SqL.of Q10.l, fun L hL => ?_⟩
        have Q11 := Q10.same (sameUpd (Same.refl _) hL (o := HO.lst ((kvs.map (·.1)).map V.str).reverse))
        refine ⟨L, (kvs.map (·.1)).reverse, (List.reverse_perm _).nodup_iff.mpr PO.nd, by rw [List.length_reverse]; exact hl4, rfl, ⟨Q11.S, Q11.p, Q11.e1, Q11.e2, ?_, (Q10.S.nst hL).1, (Q10.S.nst hL).2⟩⟩
        rw [upd_same, List.map_reverse]
      · exact ⟨L0, _, PO.nd, hl4, rfl, Q10⟩
    rintro σ10 H10 ⟨L, ns, nnd, nlen, rfl, Q10⟩
    -- the first loop
    refine ⟨_, rfl, L, rfl, ⟨_, SqL.of Q10.l⟩, ?_⟩
    refine for_list (K := K) (a := L) (xs := ns.map V.str) (fun i σ H' => ∃ (ws1 ws2 : Cf) (v : Option V), σ = [some (.ref a), some (.ref st), some (.ref pd), some (.int c), some (.int plan), some (.ref f1), some (.ref f2), some (.ref L), v, none, none, none, none, none] ∧ VOk ws1 i ∧ VOk ws2 i ∧ ws2.map (·.1) = ns.take i ∧ Q4 H' st cl pd f1 f2 L kvs ws1 ws2 ns (105 + 10 * i))
      ⟨[], [], none, rfl, ⟨List.nodup_nil, Nat.le_refl _, (fun e he => by cases he)⟩, ⟨List.nodup_nil, Nat.le_refl _, (fun e he => by cases he)⟩, rfl, Q10⟩ (fun i σ H' _ ⟨_, _, _, _, _, _, _, q⟩ => SqL.of q.l) ?_ ?_
    · rintro i x σ H11 hx ⟨ws1, ws2, v, rfl, V1, V2, hks, Q11⟩
      rw [List.getElem?_map] at hx
      cases hyi : ns[i]? with
      | none => rw [hyi] at hx; cases hx
      | some y =>
        rw [hyi] at hx
        obtain rfl : V.str y = x := Option.some.inj hx
        have hi4 : i < 4 := by have := (List.getElem?_eq_some_iff.mp hyi).1; omega
        have htk : ns.take (i + 1) = ns.take i ++ [y] := by rw [List.take_succ, hyi]; rfl
        have hnew : y ∉ ws2.map (·.1) := by
          rw [hks]
          intro m
          have nd2 : (ns.take (i + 1)).Nodup := List.Sublist.nodup (List.take_sublist _ _) nnd
          rw [htk] at nd2
          exact (List.nodup_append.mp nd2).2.2 _ m _ (List.mem_singleton.mpr rfl) rfl
        refine ⟨_, rfl, st, cl, _, rfl, Q11.S, by omega, fun n1' H12 hb1 S12 k12 => ?_⟩
        have Q12 := Q11.take k12 S12
        refine ⟨_, rfl, _, rfl, f2, _, rfl, DPut.k (k := Sum.inr y) Q12.e2 (by rw [dk_len]; exact small1000 (by have := V2.len; omega)), ?_⟩
        rw [dk_put]
        have Q13 := Q12.put2 (ws := putC ws2 y n1') NN
        have V2' : VOk (putC ws2 y n1') (i + 1) := V2.put hb1
        have hks' : (putC ws2 y n1').map (·.1) = ns.take (i + 1) := by rw [putC_names, if_neg hnew, hks, htk]
        -- the branch
        have fin : ∀ (H' : Hp) (j : Nat), j ≤ 105 + 10 * i + 3 + 4 → Q4 H' st cl pd f1 f2 L kvs ws1 (putC ws2 y n1') ns j → _ := fun H' j hj q => (⟨ws1, putC ws2 y n1', some (.str y), rfl, V1.mono (Nat.le_succ _), V2', hks', q.mono (by omega)⟩ :
          ∃ (wa wb : Cf) (v : Option V), [some (V.ref a), some (V.ref st), some (V.ref pd), some (V.int c), some (V.int plan), some (V.ref f1), some (V.ref f2), some (V.ref L), some (V.str y), none, none, none, none, none] = [some (V.ref a), some (V.ref st), some (V.ref pd), some (V.int c), some (V.int plan), some (V.ref f1), some (V.ref f2), some (V.ref L), v, none, none, none, none, none] ∧ VOk wa (i + 1) ∧ VOk wb (i + 1) ∧ wb.map (·.1) = ns.take (i + 1) ∧ Q4 H' st cl pd f1 f2 L kvs wa wb ns (105 + 10 * (i + 1)))
        have fin1 : ∀ (H' : Hp) (j : Nat) (n : Int), Bnd n → j ≤ 105 + 10 * i + 3 + 4 → Q4 H' st cl pd f1 f2 L kvs ws1 (putC ws2 y n1') ns j → _ := fun H' j n hn hj q => (⟨putC ws1 y n, putC ws2 y n1', some (.str y), rfl, V1.put hn, V2', hks', (q.put1 (ws := putC ws1 y n) NN).mono (by omega)⟩ :
          ∃ (wa wb : Cf) (v : Option V), [some (V.ref a), some (V.ref st), some (V.ref pd), some (V.int c), some (V.int plan), some (V.ref f1), some (V.ref f2), some (V.ref L), some (V.str y), none, none, none, none, none] = [some (V.ref a), some (V.ref st), some (V.ref pd), some (V.int c), some (V.int plan), some (V.ref f1), some (V.ref f2), some (V.ref L), v, none, none, none, none, none] ∧ VOk wa (i + 1) ∧ VOk wb (i + 1) ∧ wb.map (·.1) = ns.take (i + 1) ∧ Q4 (L2.upd H' f1 (.dK (dk (putC ws1 y n)))) st cl pd f1 f2 L kvs wa wb ns (105 + 10 * (i + 1)))
        refine ⟨_, rfl, rfl, _, rfl, ?_⟩
        refine ite2 (fun _ => ?_) (fun _ => ?_)
        · refine ⟨_, rfl, st, cl, _, rfl, Q13.S, by omega, fun n H14 hb2 S14 k14 => ?_⟩
          have Q14 := Q13.take k14 S14
          refine ⟨_, rfl, _, rfl, f1, _, rfl, DPut.k (k := Sum.inr y) Q14.e1 (by rw [dk_len]; exact small1000 (by have := V1.len; omega)), ?_⟩
          rw [dk_put]
          exact fin1 _ _ n hb2 (by omega) Q14
        · refine ⟨_, rfl, st, cl, _, 2, rfl, Q13.S, by omega, by decide, by decide, fun b H14 _ _ S14 k14 => ?_⟩
          have Q14 := Q13.take k14 S14
          refine ⟨rfl, _, rfl, ?_⟩
          refine ite2 (fun _ => ?_) (fun _ => ?_)
          · refine ⟨_, rfl, st, cl, _, rfl, Q14.S, by omega, fun n H15 hb2 S15 k15 => ?_⟩
            have Q15 := Q14.take k15 S15
            refine ⟨_, rfl, _, rfl, f1, _, rfl, DPut.k (k := Sum.inr y) Q15.e1 (by rw [dk_len]; exact small1000 (by have := V1.len; omega)), ?_⟩
            rw [dk_put]
            exact fin1 _ _ n hb2 (by omega) Q15
          · exact fin _ _ (by omega) Q14
    rintro σ11 H11 ⟨ws1, ws2, v, rfl, V1, V2, hks, Q11⟩
    rw [List.length_map] at V1 V2 hks Q11
    rw [List.take_length] at hks
    have Q11 := Q11.mono (m' := 145) (by omega)
    have V1 := V1.mono (n := 4) nlen
    have V2 := V2.mono (n := 4) nlen
    -- the second loop
    refine ⟨_, rfl, st, cl, _, 3, rfl, Q11.S, by decide, by decide, by decide, fun cnt H12 c0 c1 S12 k12 => ?_⟩
    have Q12 := Q11.take k12 S12
    refine ⟨_, rfl, by omega, by omega, for_range (lo := 0) (n := cnt.toNat) (fun i σ H' => ∃ (ws1 : Cf) (u : Option V), σ = [some (.ref a), some (.ref st), some (.ref pd), some (.int c), some (.int plan), some (.ref f1), some (.ref f2), some (.ref L), v, u, none, none, none, none] ∧ VOk ws1 (4 + i) ∧ Q4 H' st cl pd f1 f2 L kvs ws1 ws2 ns (146 + 10 * i))
      ⟨ws1, none, rfl, V1, Q12⟩ ?_ ?_⟩
    · rintro i σ H13 hi ⟨ws1, u, rfl, V1, Q13⟩
      refine ⟨_, rfl, st, cl, _, rfl, Q13.S, by omega, fun n H14 hb2 S14 k14 => ?_⟩
      have Q14 := Q13.take k14 S14
      refine ⟨_, rfl, by show 3 ≤ sizeLine; decide, fun M hM => ?_⟩
      have Q15 := Q14.same (sameUpd (Same.refl _) hM (o := HO.lst [V.str "q9", V.str "zz", V.str "a"]))
      refine ⟨_, rfl, st, cl, _, 3, rfl, Q15.S, by omega, by decide, by decide, fun b H16 b0 b1 S16 k16 => ?_⟩
      have Q16 := Q15.take k16 S16
      obtain ⟨nm, hnm⟩ : ∃ nm : Str, ([V.str "q9", V.str "zz", V.str "a"] : List V)[b.toNat]? = some (V.str nm) := by
        have hb : b.toNat < 3 := by omega
        generalize b.toNat = j at hb
        match j, hb with
        | 0, _ => exact ⟨_, rfl⟩
        | 1, _ => exact ⟨_, rfl⟩
        | 2, _ => exact ⟨_, rfl⟩
      have hM16 := k16 M _ upd_same (Q14.S.nst hM).1 (Q14.S.nst hM).2
      refine ⟨M, _, _, V.str nm, rfl, rfl, SqL.of hM16, atI_in b0 hnm, f1, _, rfl, DPut.k (k := Sum.inr nm) Q16.e1 (by rw [dk_len]; exact small1000 (by have := V1.len; omega)), ?_⟩
      rw [dk_put]
      exact ⟨putC ws1 nm n, _, rfl, V1.put hb2, (Q16.put1 NN).mono (by omega)⟩
    rintro σ13 H13 ⟨ws1, u, rfl, V1, Q13⟩
    have Q13 := Q13.mono (m' := 200) (by omega)
    have V1 := V1.mono (n := 8) (by omega)
    -- the form
    refine ⟨_, rfl, pd, dk kvs, rfl, Rd.of Q13.p, fun d' nd' => ?_⟩
    refine ⟨_, rfl, ?_⟩
    intro q qd nq nqd nqq
    obtain ⟨H14, hH14⟩ : ∃ H14, H14 = L2.upd (L2.upd (L2.upd H13 d' (.dK (dk kvs))) qd (.own q)) q (.ins C qd []) := ⟨_, rfl⟩
    have s13 : Same H13 H14 := by rw [hH14]; exact sameUpd (sameUpd (sameUpd (Same.refl _) nd') (by
      cases z : H13 qd with
      | none => rfl
      | some o => rw [upd_ne (ne_of_none z nd'), z] at nqd; cases nqd)) (by
      cases z : H13 q with
      | none => rfl
      | some o => rw [upd_ne (ne_of_none z nd'), z] at nq; cases nq)
    have hq13 : H13 q = none := by
      cases z : H13 q with
      | none => rfl
      | some o => rw [upd_ne (ne_of_none z nd'), z] at nq; cases nq
    rw [← hH14]
    refine ⟨q, qd, d', kvs, c, rfl, by rw [hH14]; exact upd_same, by rw [hH14, upd_ne (ne_of_none upd_same nq), upd_ne (ne_of_none upd_same nqd)]; exact upd_same, PO.nd, klen, PO.gd, fun cs H15 hlk FA ⟨d, dx, hq15, hd15, hd14⟩ s15 => ⟨rfl, ?_⟩⟩
    have s1315 : Same H13 H15 := fun b o e => s15 b o (s13 b o e) (ne_of_none e hq13)
    have Q15 := Q13.same s1315
    have AP : Apart d st cl pd f1 f2 L := Q13.apart (s13.free hd14)
    have FR : FormR C H15 q d cs c := ⟨⟨dx, hq15⟩, .inl hd15, FA.can, FA.len⟩
    refine ⟨_, rfl, _, rfl, _, rfl, by show 3 ≤ sizeLine; decide, fun M hM => ?_⟩
    have sM := sameUpd (Same.refl H15) hM (o := HO.lst [V.ref f1, V.ref f2, V.ref f1])
    have Q16 := Q15.same sM
    have FR16 := FR.sd (Sd.of sM)
    have nMd : M ≠ d := by
      intro e
      rw [e, hd15] at hM
      cases hM
    refine ⟨M, rfl, ⟨_, SqL.of upd_same⟩, ?_⟩
    refine for_list (K := K) (a := M) (xs := [V.ref f1, V.ref f2, V.ref f1]) (fun i σ H' => ∃ (x : Option V), σ = [some (.ref a), some (.ref st), some (.ref pd), some (.int c), some (.int plan), some (.ref f1), some (.ref f2), some (.ref L), v, u, some (.ref q), x, none, none] ∧ H' M = some (.lst [V.ref f1, V.ref f2, V.ref f1]) ∧ FormR C H' q d cs c ∧ Q4 H' st cl pd f1 f2 L kvs ws1 ws2 ns 200)
      ⟨none, rfl, upd_same, FR16, Q16⟩ (fun i σ H' _ ⟨_, _, e, _⟩ => SqL.of e) ?_ ?_
    · rintro i x σ H17 hx ⟨xv, rfl, hM17, FR17, Q17⟩
      have hcase : ∃ (dv : Addr) (ws : Cf) (n : Nat), x = V.ref dv ∧ H17 dv = some (.dK (dk ws)) ∧ dv ≠ d ∧ VMk ws n := by
        match i, hx with
        | 0, hx => cases hx; exact ⟨f1, ws1, 8, rfl, Q17.e1, AP.a, V1.toM⟩
        | 1, hx => cases hx; exact ⟨f2, ws2, 4, rfl, Q17.e2, AP.b, V2.toM⟩
        | 2, hx => cases hx; exact ⟨f1, ws1, 8, rfl, Q17.e1, AP.a, V1.toM⟩
        | (j + 3), hx => simp at hx
      obtain ⟨dv, ws, n, rfl, hdv, ne, vk⟩ := hcase
      refine ⟨_, rfl, _, rfl, _, rfl, _, rfl, q, d, pd, dv, kvs, cs, ws, c, rfl, FR17, FA.gd, Q17.p, AP.p, PO.nd, klen, PK, hlk, hdv, ne, vk.nd, vk.mid, fun H'' s => ⟨true, rfl, ?_⟩⟩
      refine iteF ?_
      exact ⟨_, rfl, s.keep _ _ hM17 nMd, FR17.sd s, Q17.sd AP s⟩
    rintro σ17 H17 ⟨xv, rfl, hM17, FR17, Q17⟩
    -- first takes what second has
    refine ⟨f2, _, Q17.e2, trivial, fun od2 => ?_⟩
    obtain ⟨H18, hH18⟩ : ∃ H18, H18 = L2.upd H17 f2 (.frz od2 (.dK (dk ws2))) := ⟨_, rfl⟩
    rw [← hH18]
    have h18 : H18 f2 = some (.frz od2 (.dK (dk ws2))) := by rw [hH18]; exact upd_same
    refine ⟨_, rfl, f2, od2, rfl, .inl ⟨_, h18, ?_⟩⟩
    refine for_it walk_keys (fun i σ H' => ∃ (x : Option V) (ws : Cf), σ = [some (.ref a), some (.ref st), some (.ref pd), some (.int c), some (.int plan), some (.ref f1), some (.ref f2), some (.ref L), x, u, some (.ref q), xv, none, none] ∧ VOk ws (8 + i) ∧ (∀ y ∈ (ws2.take i).map (·.1), y ∈ ws.map (·.1)) ∧ H' f2 = some (.frz od2 (.dK (dk ws2))) ∧ H' f1 = some (.dK (dk ws)) ∧ (∀ b o, H17 b = some o → b ≠ f1 → b ≠ f2 → H' b = some o))
      ⟨v, ws1, rfl, V1, (fun y hy => by simp at hy), h18, by rw [hH18, upd_ne NN.a]; exact Q17.e1, fun b o e n1 n2 => by rw [hH18, upd_ne n2]; exact e⟩ (fun i σ H' _ ⟨_, _, _, _, _, e, _⟩ => e) ?_ ?_
    · rintro i x σ H19 H20 hi ⟨xw, ws, rfl, VV, hsub, g2, g1, gk⟩ ⟨rfl, k', v', hkv, rfl⟩
      rw [dk_len] at hi
      have he : (dk ws2)[i]? = some (Sum.inr (ws2[i]).1, V.int (ws2[i]).2) := by
        unfold dk
        rw [List.getElem?_map, List.getElem?_eq_getElem hi]
        rfl
      rw [he] at hkv
      cases hkv
      have hm : ws2[i] ∈ ws2 := List.getElem_mem hi
      have hg : DGet H20 f2 (V.str (ws2[i]).1) (some (V.int (ws2[i]).2)) := by
        have hv : valV (dk ws2) (Sum.inr (ws2[i]).1 : Key) = some (V.int (ws2[i]).2) := by rw [valV_dk, lookO_of_mem V2.nd (k := (ws2[i]).1) (v := (ws2[i]).2) hm]; rfl
        rw [← hv]
        exact .inl ⟨dk ws2, Sum.inr (ws2[i]).1, .inr ⟨od2, g2⟩, rfl, rfl⟩
      have i4 : i < 4 := by have := V2.len; omega
      refine ⟨_, rfl, _, rfl, f2, _, rfl, hg, _, rfl, _, rfl, f1, _, rfl, DPut.k (k := Sum.inr (ws2[i]).1) g1 (by rw [dk_len]; exact small1000 (by have := VV.len; omega)), ?_⟩
      rw [dk_put]
      refine ⟨_, putC ws (ws2[i]).1 (ws2[i]).2, rfl, (VV.put (V2.mid _ hm)), ?_, ?_, upd_same, fun b o e n1 n2 => ?_⟩
      · intro y hy
        rw [List.take_succ, List.getElem?_eq_getElem hi, List.map_append] at hy
        rw [putC_names]
        rcases List.mem_append.mp hy with z | z
        · have := hsub y z
          split
          · exact this
          · exact List.mem_append_left _ this
        · have : y = (ws2[i]).1 := List.mem_singleton.mp z
          rw [this]
          split
          · assumption
          · exact List.mem_append_right _ (List.mem_singleton.mpr rfl)
      · rw [upd_ne NN.a.symm]; exact g2
      · rw [upd_ne n1]; exact gk b o e n1 n2
    rintro σ19 H19 ⟨xw, ws, rfl, VV, hsub, g2, g1, gk⟩
    rw [dk_len, List.take_length, hks] at hsub
    rw [dk_len] at VV
    have VV := VV.mono (n := 12) (by have := V2.len; omega)
    refine ⟨g2, ?_⟩
    obtain ⟨H20, hH20⟩ : ∃ H20, H20 = L2.upd H19 f2 (.dK (dk ws2)) := ⟨_, rfl⟩
    rw [← hH20]
    have k20 : ∀ b o, H17 b = some o → b ≠ f1 → H20 b = some o := fun b o e n1 => by
      rw [hH20]
      by_cases z : b = f2
      · rw [z, upd_same, ← Q17.e2, ← e, z]
      · rw [upd_ne z]; exact gk b o e n1 z
    have hf1ne : ∀ {b : Addr} {o : HO}, H17 b = some o → (∀ z, o ≠ .dK z) → b ≠ f1 := fun {b o} e n z => by
      rw [z, Q17.e1] at e
      exact n _ (Option.some.inj e).symm
    obtain ⟨⟨qp, qc, hst, hst2⟩, ⟨zs, hcl, hcl2⟩, hsc⟩ := id Q17.S
    have Q20 : Q4 H20 st cl pd f1 f2 L kvs ws ws2 ns 200 := ⟨⟨⟨qp, qc, k20 _ _ hst (hf1ne hst fun z => by intro w; cases w), hst2⟩, ⟨zs, k20 _ _ hcl (hf1ne hcl fun z => by intro w; cases w), hcl2⟩, hsc⟩,
      k20 _ _ Q17.p NN.b, by rw [hH20, upd_ne NN.a]; exact g1, by rw [hH20]; exact upd_same, k20 _ _ Q17.l (hf1ne Q17.l fun z => by intro w; cases w), Q17.l1, Q17.l2⟩
    have FR20 : FormR C H20 q d cs c := FR17.but fun b o e hb => k20 b o e (by
      rcases hb with z | z
      · rw [z] at e ⊢
        obtain ⟨dxq, hq17⟩ := FR17.ob
        exact hf1ne hq17 fun z => by intro w; cases w
      · rw [z]; exact AP.a.symm)
    refine ⟨_, rfl, _, rfl, _, rfl, _, rfl, q, d, pd, f1, kvs, cs, ws, c, rfl, FR20, FA.gd, Q20.p, AP.p, PO.nd, klen, PK, hlk, Q20.e1, AP.a, VV.toM.nd, VV.toM.mid, fun H21 s21 => ⟨true, rfl, ?_⟩⟩
    have Q21 := Q20.sd AP s21
    have FR21 := FR20.sd s21
    refine iteF ?_
    -- one name taken out, and put back with another value
    refine ⟨fun σ H' => ∃ (ws : Cf) (x y : Option V), σ = [some (.ref a), some (.ref st), some (.ref pd), some (.int c), some (.int plan), some (.ref f1), some (.ref f2), some (.ref L), xw, u, some (.ref q), xv, x, y] ∧ VMk ws 20 ∧ FormR C H' q d cs c ∧ Q4 H' st cl pd f1 f2 L kvs ws ws2 ns 201, ?_, ?_⟩
    · refine ⟨_, rfl, _, .inl ⟨_, SqL.of Q21.l, rfl⟩, ?_⟩
      have hE : (!(ns.map V.str).isEmpty) = decide (0 < ns.length) := by cases ns <;> simp
      rw [hE]
      by_cases hp : 0 < ns.length
      · rw [decide_eq_true hp]
        refine iteT ?_
        refine ⟨_, rfl, _, rfl, _, rfl, L, _, rfl, .inl (SqL.of Q21.l), st, cl, _, _, rfl, Q21.S, by decide, ?_, ?_, fun b H22 b0 b1 S22 k22 => ?_⟩
        · rw [List.length_map]; omega
        · rw [List.length_map]; omega
        rw [List.length_map] at b1
        have Q22 := Q21.take k22 S22
        have FR22 : FormR C H22 q d cs c := FR21.but fun x o e hx => k22 x o e (by
          rcases hx with z | z
          · rw [z] at e ⊢
            obtain ⟨dxq, hq21⟩ := FR21.ob
            obtain ⟨⟨_, _, g, _⟩, _, _⟩ := id Q21.S
            exact ne_of hq21 g (by intro w; cases w)
          · rw [z]; exact AP.s.symm) (by
          rcases hx with z | z
          · rw [z] at e ⊢
            obtain ⟨dxq, hq21⟩ := FR21.ob
            obtain ⟨_, ⟨_, g, _⟩, _⟩ := id Q21.S
            exact ne_of hq21 g (by intro w; cases w)
          · rw [z]; exact AP.c.symm)
        have hbi : b.toNat < ns.length := by omega
        have hnb : (ns.map V.str)[b.toNat]? = some (V.str ns[b.toNat]) := by rw [List.getElem?_map, List.getElem?_eq_getElem hbi]; rfl
        refine ⟨L, _, _, V.str ns[b.toNat], rfl, rfl, SqL.of Q22.l, atI_in b0 hnb, ?_⟩
        have hin : ns[b.toNat] ∈ ws.map (·.1) := hsub _ (List.getElem_mem hbi)
        obtain ⟨z, hz⟩ : ∃ z, lookO ws ns[b.toNat] = some z := by
          cases e : lookO ws ns[b.toNat] with
          | none => exact absurd hin (lookO_none.mp e)
          | some z => exact ⟨z, rfl⟩
        have hzv : valV (dk ws) (Sum.inr ns[b.toNat] : Key) = some (V.int z) := by rw [valV_dk, hz]; rfl
        refine ⟨_, rfl, f1, rfl, .inl ⟨_, .inl Q22.e1⟩, _, rfl, dk ws, Sum.inr ns[b.toNat], V.int z, Q22.e1, rfl, hzv, ?_⟩
        have hdr : dropK (dk ws) (Sum.inr ns[b.toNat] : Key) = dk (ws.filter fun e => decide (e.1 ≠ ns[b.toNat])) := by
          unfold dropK dk
          rw [List.filter_map]
          congr 1
          refine List.filter_congr fun e _ => ?_
          show decide ((Sum.inr e.1 : Key) ≠ Sum.inr ns[b.toNat]) = decide (e.1 ≠ ns[b.toNat])
          by_cases g : e.1 = ns[b.toNat]
          · rw [g]; simp
          · have g2 : ¬ (Sum.inr e.1 : Key) = Sum.inr ns[b.toNat] := fun w => g (Sum.inr.inj w)
            simp only [ne_eq, g, g2, not_false_eq_true]
        rw [hdr]
        have VF : VOk (ws.filter fun e => decide (e.1 ≠ ns[b.toNat])) 12 := ⟨List.Sublist.nodup (List.Sublist.map _ List.filter_sublist) VV.nd, Nat.le_trans (List.length_filter_le _ _) VV.len, fun e he => VV.mid e (List.mem_filter.mp he).1⟩
        have Q23 := Q22.put1 (ws := ws.filter fun e => decide (e.1 ≠ ns[b.toNat])) NN
        have keepF : ∀ (H' : Hp) (o1 : HO), Q4 H' st cl pd f1 f2 L kvs ws ws2 ns 201 ∨ True → FormR C H' q d cs c → (∃ z, H' f1 = some (.dK z)) → FormR C (L2.upd H' f1 o1) q d cs c := fun H' o1 _ fr ⟨zz, hz1⟩ => fr.but fun x o e hx => by
          rw [upd_ne]
          · exact e
          · rcases hx with g | g
            · rw [g] at e ⊢
              obtain ⟨dxq, hq⟩ := fr.ob
              exact ne_of hq hz1 (by intro w; cases w)
            · rw [g]; exact AP.a.symm
        have FR23 := keepF H22 (.dK (dk (ws.filter fun e => decide (e.1 ≠ ns[b.toNat])))) (.inr trivial) FR22 ⟨_, Q22.e1⟩
        refine ⟨_, rfl, _, rfl, _, rfl, _, rfl, q, d, pd, f1, kvs, cs, _, c, rfl, FR23, FA.gd, Q23.p, AP.p, PO.nd, klen, PK, hlk, Q23.e1, AP.a, VF.toM.nd, VF.toM.mid, fun H24 s24 => ⟨true, rfl, ?_⟩⟩
        have Q24 := Q23.sd AP s24
        have FR24 := FR23.sd s24
        refine iteF ?_
        refine ⟨_, rfl, _, _, rfl, rfl, _, rfl, _, rfl, f1, _, rfl, DPut.k (k := Sum.inr ns[b.toNat]) Q24.e1 (by rw [dk_len]; exact small1000 (by have := VF.len; omega)), ?_⟩
        rw [dk_put]
        have hmz : Mid (z + 1) := by
          have hb2 : Bnd z := VV.mid _ (lookO_mem hz)
          unfold Bnd at hb2
          unfold Mid
          exact Nat.lt_of_le_of_lt (by omega : (z + 1).natAbs ≤ 21000000000000000000000000001) (by decide +kernel)
        exact ⟨_, _, _, rfl, (VF.toM.put hmz).mono (by omega), keepF H24 _ (.inr trivial) FR24 ⟨_, Q24.e1⟩, Q24.put1 NN⟩
      · rw [decide_eq_false hp]
        refine iteF ?_
        exact ⟨ws, none, none, rfl, VV.toM.mono (by omega), FR21, Q21.mono (by omega)⟩
    rintro σ25 H25 ⟨ws', x', y', rfl, V25, FR25, Q25⟩
    refine ⟨_, rfl, _, rfl, _, rfl, _, rfl, q, d, pd, f1, kvs, cs, ws', c, rfl, FR25, FA.gd, Q25.p, AP.p, PO.nd, klen, PK, hlk, Q25.e1, AP.a, V25.nd, V25.mid, fun H26 s26 => ⟨true, rfl, ?_⟩⟩
    have Q26 := Q25.sd AP s26
    have FR26 := FR25.sd s26
    refine iteT ?_
    refine ⟨_, rfl, _, rfl, _, rfl, _, rfl, q, d, pd, f2, kvs, cs, ws2, c, rfl, FR26, FA.gd, Q26.p, AP.p, PO.nd, klen, PK, hlk, Q26.e2, AP.b, V2.toM.nd, V2.toM.mid, fun H27 _ => ?_⟩
    exact k H27
end
end OS
namespace OS
open PySem L2
theorem all_mk {l : PySem.W.OpenLaw} {w : World} {K : PySem.W.Frag} {h : Heap} {mg : Str → Option Value} {fa C f1 f2 f3 f4 f5 f6 f7 f8 f9 f10 f11 f12 : Addr} (X : K.In h) (G : h.Ns mainGlobals mg) (hfa : mg "law" = some (.ref fa))
    {od1 an1 od2 an2 od3 an3 od4 an4 od5 an5 od6 an6 od7 an7 od8 an8 od9 an9 od10 an10 od11 an11 od12 an12 : Option Addr} {sl1 sl2 sl3 sl4 sl5 sl6 sl7 sl8 sl9 sl10 sl11 sl12 : Array (Option Value)} {oc1 kV1 dc1 pm1 cd1 ct1 oc2 kV2 dc2 pm2 cd2 ct2 oc3 kV3 dc3 pm3 cd3 ct3 oc4 kV4 dc4 pm4 cd4 ct4 oc5 kV5 dc5 pm5 cd5 ct5 oc6 kV6 dc6 pm6 cd6 ct6 oc7 kV7 dc7 pm7 cd7 ct7 oc8 kV8 dc8 pm8 cd8 ct8 oc9 kV9 dc9 pm9 cd9 ct9 oc10 kV10 dc10 pm10 cd10 ct10 oc11 kV11 dc11 pm11 cd11 ct11 oc12 kV12 dc12 pm12 cd12 ct12 : Value} {t1 t2 t3 t4 : Tok} {CU fU : Addr} {odU anU : Option Addr} {slU : Array (Option Value)} {ocU kVU dcU pmU cdU ctU : Value} {nmU qU : Str} {NU : Addr} {bsU : List Value} {snU : List Str} {subU : List Value} {abU : Bool} {colU : Option Bool} {ddU : Option Addr} {k0U k1U k2U k3U k5U : Option Value} {ONE : Addr} {T11 : Addr} {ocT11 : Value} {odT11 : Option Addr} {nT11 : Nat} {slT11 : Array (Option Value)} {tT11 : Tok}
    (aC : PySem.W.nsIn K mainGlobals "Form" = some (some (.ref C)))
    (aU : PySem.W.nsIn K mainGlobals "UnknownName" = some (some (.ref CU)))
    (aO : PySem.W.nsIn K mainGlobals "OneshardError" = some (some (.ref ONE)))
    (a1 : PySem.W.nsIn K mainGlobals "_law_start" = some (some (.ref f1)))
    (l1 : K.lookup f1 = some ⟨oc1, od1, .func (PySem.W.fnOf "_law_start" "_law_start" (defArgs sStart) (defBody sStart) (defScope sStart) .none kV1 dc1 pm1 an1 cd1 ct1), sl1⟩)
    (c1 : PySem.W.codeIn K cd1 "_law_start" = true)
    (k1 : PySem.W.keepIn K (.ref f1) = true)
    (a2 : PySem.W.nsIn K mainGlobals "_law_take" = some (some (.ref f2)))
    (l2 : K.lookup f2 = some ⟨oc2, od2, .func (PySem.W.fnOf "_law_take" "_law_take" (defArgs sTake) (defBody sTake) (defScope sTake) .none kV2 dc2 pm2 an2 cd2 ct2), sl2⟩)
    (c2 : PySem.W.codeIn K cd2 "_law_take" = true)
    (k2 : PySem.W.keepIn K (.ref f2) = true)
    (a3 : PySem.W.nsIn K mainGlobals "_law_name" = some (some (.ref f3)))
    (l3 : K.lookup f3 = some ⟨oc3, od3, .func (PySem.W.fnOf "_law_name" "_law_name" (defArgs s_name) (defBody s_name) (defScope s_name) .none kV3 dc3 pm3 an3 cd3 ct3), sl3⟩)
    (c3 : PySem.W.codeIn K cd3 "_law_name" = true)
    (k3 : PySem.W.keepIn K (.ref f3) = true)
    (a4 : PySem.W.nsIn K mainGlobals "_law_integer" = some (some (.ref f4)))
    (l4 : K.lookup f4 = some ⟨oc4, od4, .func (PySem.W.fnOf "_law_integer" "_law_integer" (defArgs s_integer) (defBody s_integer) (defScope s_integer) .none kV4 dc4 pm4 an4 cd4 ct4), sl4⟩)
    (c4 : PySem.W.codeIn K cd4 "_law_integer" = true)
    (k4 : PySem.W.keepIn K (.ref f4) = true)
    (a5 : PySem.W.nsIn K mainGlobals "_law_parts" = some (some (.ref f5)))
    (l5 : K.lookup f5 = some ⟨oc5, od5, .func (PySem.W.fnOf "_law_parts" "_law_parts" (defArgs s_parts) (defBody s_parts) (defScope s_parts) .none kV5 dc5 pm5 an5 cd5 ct5), sl5⟩)
    (c5 : PySem.W.codeIn K cd5 "_law_parts" = true)
    (k5 : PySem.W.keepIn K (.ref f5) = true)
    (a6 : PySem.W.nsIn K mainGlobals "_law_call" = some (some (.ref f6)))
    (l6 : K.lookup f6 = some ⟨oc6, od6, .func (PySem.W.fnOf "_law_call" "_law_call" (defArgs s_call) (defBody s_call) (defScope s_call) .none kV6 dc6 pm6 an6 cd6 ct6), sl6⟩)
    (c6 : PySem.W.codeIn K cd6 "_law_call" = true)
    (k6 : PySem.W.keepIn K (.ref f6) = true)
    (a7 : PySem.W.nsIn K mainGlobals "valid_name" = some (some (.ref f7)))
    (l7 : K.lookup f7 = some ⟨oc7, od7, .func (PySem.W.fnOf "valid_name" "valid_name" (defArgs sValid) (defBody sValid) (defScope sValid) .none kV7 dc7 pm7 an7 cd7 ct7), sl7⟩)
    (c7 : PySem.W.codeIn K cd7 "valid_name" = true)
    (k7 : PySem.W.keepIn K (.ref f7) = true)
    (a8 : PySem.W.nsIn K mainGlobals "_law_due" = some (some (.ref f8)))
    (l8 : K.lookup f8 = some ⟨oc8, od8, .func (PySem.W.fnOf "_law_due" "_law_due" (defArgs s_due) (defBody s_due) (defScope s_due) .none kV8 dc8 pm8 an8 cd8 ct8), sl8⟩)
    (c8 : PySem.W.codeIn K cd8 "_law_due" = true)
    (k8 : PySem.W.keepIn K (.ref f8) = true)
    (a9 : PySem.W.nsIn K mainGlobals "_law_right" = some (some (.ref f9)))
    (l9 : K.lookup f9 = some ⟨oc9, od9, .func (PySem.W.fnOf "_law_right" "_law_right" (defArgs s_right) (defBody s_right) (defScope s_right) .none kV9 dc9 pm9 an9 cd9 ct9), sl9⟩)
    (c9 : PySem.W.codeIn K cd9 "_law_right" = true)
    (k9 : PySem.W.keepIn K (.ref f9) = true)
    (a10 : PySem.W.findIn K (.ref C) "__call__" = some (some (.ref f10)))
    (i10 : PySem.W.isFn K (.ref f10) = true)
    (l10 : K.lookup f10 = some ⟨oc10, od10, .func (PySem.W.fnOf "__call__" "Form.__call__" (defArgs sForm_call) (defBody sForm_call) (defScope sForm_call) .none kV10 dc10 pm10 an10 cd10 ct10), sl10⟩)
    (c10 : PySem.W.codeIn K cd10 "Form.__call__" = true)
    (k10 : PySem.W.keepIn K (.ref f10) = true)
    (a11 : PySem.W.findIn K (.ref C) "__init__" = some (some (.ref f11)))
    (i11 : PySem.W.isFn K (.ref f11) = true)
    (l11 : K.lookup f11 = some ⟨oc11, od11, .func (PySem.W.fnOf "__init__" "Form.__init__" (defArgs sForm_init) (defBody sForm_init) (defScope sForm_init) (.ref T11) kV11 dc11 pm11 an11 cd11 ct11), sl11⟩)
    (lT11 : K.lookup T11 = some ⟨ocT11, odT11, .seq #[.int 0 tT11] nT11, slT11⟩)
    (c11 : PySem.W.codeIn K cd11 "Form.__init__" = true)
    (k11 : PySem.W.keepIn K (.ref f11) = true)
    (a12 : PySem.W.nsIn K mainGlobals "law" = some (some (.ref f12)))
    (l12 : K.lookup f12 = some ⟨oc12, od12, .func (PySem.W.fnOf "law" "law" (defArgs sLaw) (defBody sLaw) (defScope sLaw) .none kV12 dc12 pm12 an12 cd12 ct12), sl12⟩)
    (c12 : PySem.W.codeIn K cd12 "law" = true)
    (k12 : PySem.W.keepIn K (.ref f12) = true)
    (uL : K.lookup CU = some (excClassObj nmU qU CU NU bsU [.ref ONE, .type "ValueError", .type "Exception", .type "BaseException", .type "object"] true snU subU abU colU ddU k0U k1U k2U k3U k5U "ValueError.__new__"))
    (usa : PySem.W.findIn K (.ref CU) "__setattr__" = some (some (.builtin "object.__setattr__")))
    (uex : PySem.W.subIn K (.ref CU) (.type "BaseException") = some true)
    (uty : PySem.W.typeIn K (.ref CU) = some (.type "type"))
    (ukC : PySem.W.keepIn K (.ref CU) = true)
    (uiC : PySem.W.findIn K (.ref CU) "__init__" = some (some (.ref fU)))
    (utI : PySem.W.typeIn K (.ref fU) = some (.type "function"))
    (uno : PySem.W.findIn K (.ref CU) "name" = some none)
    (uga : PySem.W.findIn K (.ref CU) "__getattribute__" = some (some (.builtin "BaseException.__getattribute__")))
    (ugg : PySem.W.findIn K (.ref CU) "__getattr__" = some none)
    (uhd : PySem.W.hasDictIn K CU = true)
    (usu : PySem.W.subIn K (.ref CU) (.ref CU) = some true)
    (ul : K.lookup fU = some ⟨ocU, odU, .func (PySem.W.fnOf "__init__" "UnknownName.__init__" (defArgs sUnknownName_init) (defBody sUnknownName_init) (defScope sUnknownName_init) .none kVU dcU pmU anU cdU ctU), slU⟩)
    (uc : PySem.W.codeIn K cdU "UnknownName.__init__" = true)
    (uk : PySem.W.keepIn K (.ref fU) = true)
    (m1 : PySem.W.nsIn K mainGlobals "MOST_CHARACTERS" = some (some (.int 6 t1)))
    (m2 : PySem.W.nsIn K mainGlobals "LETTERS" = some (some (.str lowL t2)))
    (m3 : PySem.W.nsIn K mainGlobals "DIGITS" = some (some (.str digL t3)))
    (m4 : PySem.W.nsIn K mainGlobals "RESERVED" = some (some (.str "mod" t4)))
    (pg : PySem.W.plainGet K C Str.empty = true)
    (hd : PySem.W.hasDictIn K C = true)
    (po : PySem.W.plainOver K C = true)
    (sa : PySem.W.findIn K (.ref C) "__setattr__" = some (some (.builtin "object.__setattr__")))
    (mk : PySem.W.makesIn K C = true)
    (kc : PySem.W.keepIn K (.ref C) = true)
    (nF : PySem.W.findIn K (.ref C) "_coefficients" = some none)
    (nT : PySem.W.findIn K (.ref C) "_constant" = some none)
    (fi : PySem.W.fnIn K f10 = true)
    (z_len : PySem.W.nsIn K mainGlobals "len" = some none)
    (z_int : PySem.W.nsIn K mainGlobals "int" = some none)
    (z_max : PySem.W.nsIn K mainGlobals "max" = some none)
    (z_abs : PySem.W.nsIn K mainGlobals "abs" = some none)
    (z_all : PySem.W.nsIn K mainGlobals "all" = some none)
    (z_range : PySem.W.nsIn K mainGlobals "range" = some none)
    (z_sorted : PySem.W.nsIn K mainGlobals "sorted" = some none)
    (z_dict : PySem.W.nsIn K mainGlobals "dict" = some none)
    (z_sum : PySem.W.nsIn K mainGlobals "sum" = some none) :
    ∃ fd : FuncData, (∀ (s : Shared) (v : Value), BindsTo s fd ⟨[v], []⟩ [("_law_script", v)]) ∧ ∀ base : Heap, K.In base → base.Ns mainGlobals mg → FnOk l.prog w K mg base CX0 6 fa fd ["_law_script"] (spLaw K) := by
  have e := hfa.symm.trans (PySem.W.mg_of X G a12)
  cases e
  have F1 := fun_mk (st := sStart) l1 c1 k1
  have b1 := F1.binds (ps := ["_law_script"]) fun _ _ _ _ _ _ us hl => match us, hl with | [_], _ => rfl
  have F2 := fun_mk (st := sTake) l2 c2 k2
  have b2 := F2.binds (ps := ["_law_state", "_law_limit"]) fun _ _ _ _ _ _ us hl => match us, hl with | [_, _], _ => rfl
  have F3 := fun_mk (st := s_name) l3 c3 k3
  have b3 := F3.binds (ps := ["_law_state"]) fun _ _ _ _ _ _ us hl => match us, hl with | [_], _ => rfl
  have F4 := fun_mk (st := s_integer) l4 c4 k4
  have b4 := F4.binds (ps := ["_law_state"]) fun _ _ _ _ _ _ us hl => match us, hl with | [_], _ => rfl
  have F5 := fun_mk (st := s_parts) l5 c5 k5
  have b5 := F5.binds (ps := ["_law_state"]) fun _ _ _ _ _ _ us hl => match us, hl with | [_], _ => rfl
  have F6 := fun_mk (st := s_call) l6 c6 k6
  have b6 := F6.binds (ps := ["_law_form", "_law_values"]) fun _ _ _ _ _ _ us hl => match us, hl with | [_, _], _ => rfl
  have F7 := fun_mk (st := sValid) l7 c7 k7
  have b7 := F7.binds (ps := ["text"]) fun _ _ _ _ _ _ us hl => match us, hl with | [_], _ => rfl
  have F8 := fun_mk (st := s_due) l8 c8 k8
  have b8 := F8.binds (ps := ["_law_parts_here", "_law_offset", "_law_values"]) fun _ _ _ _ _ _ us hl => match us, hl with | [_, _, _], _ => rfl
  have F9 := fun_mk (st := s_right) l9 c9 k9
  have b9 := F9.binds (ps := ["_law_form", "_law_parts_here", "_law_offset", "_law_values"]) fun _ _ _ _ _ _ us hl => match us, hl with | [_, _, _, _], _ => rfl
  have F10 := fun_mk (st := sForm_call) l10 c10 k10
  have b10 := F10.binds (ps := ["self", "values"]) fun _ _ _ _ _ _ us hl => match us, hl with | [_, _], _ => rfl
  have F11 : FunD K "__init__" "Form.__init__" (defArgs sForm_init) (defBody sForm_init) (defScope sForm_init) [V.int 0] [] f11 _ := ⟨⟨_, _, _, _, _, _, _, _, _, _, rfl, l11, c11, .inr ⟨by simp, _, _, _, _, rfl, lT11, rfl, .cons ⟨_, rfl⟩ .nil⟩, .inl rfl⟩, k11⟩
  obtain ⟨ds11, vd11, b11⟩ := F11.binds1 (ps := ["self", "coefficients", "constant"]) 3 1 (by simp) (by decide) fun _ _ _ _ _ _ _ us its h1 h2 => match us, its, h1, h2 with | [_, _, _], [_], _, _ => ⟨_, rfl, rfl⟩
  cases vd11
  have F12 := fun_mk (st := sLaw) l12 c12 k12
  have mz_len := PySem.W.mg_none_of X G z_len
  have mz_int := PySem.W.mg_none_of X G z_int
  have mz_max := PySem.W.mg_none_of X G z_max
  have mz_abs := PySem.W.mg_none_of X G z_abs
  have mz_all := PySem.W.mg_none_of X G z_all
  have mz_range := PySem.W.mg_none_of X G z_range
  have mz_sorted := PySem.W.mg_none_of X G z_sorted
  have mz_dict := PySem.W.mg_none_of X G z_dict
  have mz_sum := PySem.W.mg_none_of X G z_sum
  have G1 : Df K mg "_law_start" f1 := ⟨PySem.W.mg_of X G a1, k1⟩
  have G2 : Df K mg "_law_take" f2 := ⟨PySem.W.mg_of X G a2, k2⟩
  have G3 : Df K mg "_law_name" f3 := ⟨PySem.W.mg_of X G a3, k3⟩
  have G4 : Df K mg "_law_integer" f4 := ⟨PySem.W.mg_of X G a4, k4⟩
  have G5 : Df K mg "_law_parts" f5 := ⟨PySem.W.mg_of X G a5, k5⟩
  have G6 : Df K mg "_law_call" f6 := ⟨PySem.W.mg_of X G a6, k6⟩
  have G7 : Df K mg "valid_name" f7 := ⟨PySem.W.mg_of X G a7, k7⟩
  have G8 : Df K mg "_law_due" f8 := ⟨PySem.W.mg_of X G a8, k8⟩
  have G9 : Df K mg "_law_right" f9 := ⟨PySem.W.mg_of X G a9, k9⟩
  have T : Bi mg := ⟨mz_len, mz_int, mz_max, mz_abs⟩
  have N : Nm mg := ⟨⟨_, PySem.W.mg_of X G m1⟩, ⟨_, PySem.W.mg_of X G m2⟩, ⟨_, PySem.W.mg_of X G m3⟩, ⟨_, PySem.W.mg_of X G m4⟩, mz_all⟩
  have CL : Cls K C := ⟨pg, hd, po, sa⟩
  have FT : FTx K mg C := ⟨CL, nF, nT, mz_sorted⟩
  have M : Mk K C f11 := ⟨mk, a11, i11, kc⟩
  have mC : mg "Form" = some (.ref C) := PySem.W.mg_of X G aC
  have U : ErrC K mg "UnknownName" CU fU "name" := ⟨PySem.W.mg_of X G aU, ⟨⟨nmU, qU, NU, bsU, _, snU, subU, abU, colU, ddU, k0U, k1U, k2U, k3U, k5U, uL, rfl⟩, usa, uex, uty, ukC⟩, uiC, utI, uno, ⟨uga, ugg, uex, uhd⟩, PySem.W.exm_ref uex uhd uty usu⟩
  have FU := fun_mk (st := sUnknownName_init) ul uc uk
  have bU := FU.binds (ps := ["self", "name"]) fun _ _ _ _ _ _ us hl => match us, hl with | [_, _], _ => rfl
  refine ⟨PySem.W.fnOf "law" "law" (defArgs sLaw) (defBody sLaw) (defScope sLaw) .none kV12 dc12 pm12 an12 cd12 ct12, fun s v => .of_eq rfl, fun base _ _ => ?_⟩
  have E1 := ok_start (P := l.prog) (w := w) (base := base) F1 T
  have E2 := ok_take (P := l.prog) (w := w) (base := base) F2 T
  have E3 := ok_name F3 mz_range E2 G2 b2
  have E4 := ok_int F4 E2 G2 b2
  have E5 := ok_parts F5 mz_range E2 G2 b2 E3 G3 b3 E4 G4 b4
  have E7 := ok_valid (P := l.prog) (w := w) (base := base) F7 T N
  have EU := ok_un (P := l.prog) (w := w) (base := base) FU U
  have E10 := ok_call F10 FT U EU bU
  have E6 := ok_try F6 U E10 b10 ⟨a10, i10, fi⟩
  have E8 := ok_due (P := l.prog) (w := w) (base := base) F8 mz_sorted mz_sum
  have E9 := ok_right F9 mz_dict E6 G6 b6 E8 G8 b8
  have E11 := ok_init F11 FT E7 G7 b7
  exact ok_law F12 mz_dict mz_range mz_len mC E1 G1 b1 E2 G2 b2 E5 G5 b5 E4 G4 b4 M E11 b11 E9 G9 b9
theorem walk {l : PySem.W.OpenLaw} {q : Program} {loose : List Str} {XP : (Str → Option Value) → Heap → Prop} {YP : World → Heap → Prop} {d : DefRec} {K : Params → PySem.W.Frag} (hn : l.most = some 63) (hdf : d.params.defaults = [])
    (hY : ∀ (w : World) (h : Heap), YP w h → (K w.params).In h)
    (F : ∀ (w : World) (mg : Str → Option Value) (fa : Addr) (h : Heap), (K w.params).In h → h.Ns mainGlobals mg → mg d.name = some (.ref fa) →
      ∃ fd : FuncData, (∀ (s : Shared) (u : Value), BindsTo s fd ⟨[u], []⟩ [("_law_script", u)]) ∧ ∀ base : Heap, (K w.params).In base → base.Ns mainGlobals mg → FnOk l.prog w (K w.params) mg base CX0 6 fa fd ["_law_script"] (spLaw (K w.params))) :
    PySem.W.WalkO q loose XP YP l.row.toRowW d [] (fun f vs => PySem.call f vs) :=
  L2.walk_of (n := 63) (k := 6) (x := "_law_script") (CX := fun _ => CX0) (sp := fun w => spLaw (K w.params)) hn (by decide) hdf ⟨rfl, by decide, by decide⟩ hY F (fun _ _ a ns hl _ hS => ⟨a, ns, rfl, hS, hl, fun _ => rfl⟩) fun _ _ _ _ _ z => z
end OS
open PySem PySem.W PyProof.Rows
set_option maxRecDepth 100000 in
set_option maxHeartbeats 0 in
theorem PySem.Challenge.cw_oneshard_k04_form_values_holds : PySem.Challenge.rw_oneshard_k04_form_values.Holds := by
  w_on; o_law; k_head; (case hw => w_witness2)
  k_fill
  refine OS.walk (l := PySem.Challenge.rw_oneshard_k04_form_values) rfl rfl (fun w h Y => PySem.W.kIn_of Y) ?F
  case F =>
    intro w mg fa h KX G hmg
    refine' OS.all_mk KX G hmg ?aC ?aU ?aO ?a1 ?l1 ?c1 ?k1 ?a2 ?l2 ?c2 ?k2 ?a3 ?l3 ?c3 ?k3 ?a4 ?l4 ?c4 ?k4 ?a5 ?l5 ?c5 ?k5 ?a6 ?l6 ?c6 ?k6 ?a7 ?l7 ?c7 ?k7 ?a8 ?l8 ?c8 ?k8 ?a9 ?l9 ?c9 ?k9 ?a10 ?i10 ?l10 ?c10 ?k10 ?a11 ?i11 ?l11 ?lT11 ?c11 ?k11 ?a12 ?l12 ?c12 ?k12 ?uL ?usa ?uex ?uty ?ukC ?uiC ?utI ?uno ?uga ?ugg ?uhd ?usu ?ul ?uc ?uk ?m1 ?m2 ?m3 ?m4 ?pg ?hd ?po ?sa ?mk ?kc ?nF ?nT ?fi ?z_len ?z_int ?z_max ?z_abs ?z_all ?z_range ?z_sorted ?z_dict ?z_sum
    (case aC => k_is)
    (case aU => k_is)
    (case aO => k_is)
    (case a1 => k_is)
    (case l1 => k_is)
    (case c1 => k_is)
    (case k1 => k_is)
    (case a2 => k_is)
    (case l2 => k_is)
    (case c2 => k_is)
    (case k2 => k_is)
    (case a3 => k_is)
    (case l3 => k_is)
    (case c3 => k_is)
    (case k3 => k_is)
    (case a4 => k_is)
    (case l4 => k_is)
    (case c4 => k_is)
    (case k4 => k_is)
    (case a5 => k_is)
    (case l5 => k_is)
    (case c5 => k_is)
    (case k5 => k_is)
    (case a6 => k_is)
    (case l6 => k_is)
    (case c6 => k_is)
    (case k6 => k_is)
    (case a7 => k_is)
    (case l7 => k_is)
    (case c7 => k_is)
    (case k7 => k_is)
    (case a8 => k_is)
    (case l8 => k_is)
    (case c8 => k_is)
    (case k8 => k_is)
    (case a9 => k_is)
    (case l9 => k_is)
    (case c9 => k_is)
    (case k9 => k_is)
    (case a10 => k_is)
    (case i10 => k_is)
    (case l10 => k_is)
    (case c10 => k_is)
    (case k10 => k_is)
    (case a11 => k_is)
    (case i11 => k_is)
    (case l11 => k_is)
    (case lT11 => k_is)
    (case c11 => k_is)
    (case k11 => k_is)
    (case a12 => k_is)
    (case l12 => k_is)
    (case c12 => k_is)
    (case k12 => k_is)
    (case uL => k_is)
    (case usa => k_is)
    (case uex => k_is)
    (case uty => k_is)
    (case ukC => k_is)
    (case uiC => k_is)
    (case utI => k_is)
    (case uno => k_is)
    (case uga => k_is)
    (case ugg => k_is)
    (case uhd => k_is)
    (case usu => k_is)
    (case ul => k_is)
    (case uc => k_is)
    (case uk => k_is)
    (case m1 => k_is)
    (case m2 => k_is)
    (case m3 => k_is)
    (case m4 => k_is)
    (case pg => k_is)
    (case hd => k_is)
    (case po => k_is)
    (case sa => k_is)
    (case mk => k_is)
    (case kc => k_is)
    (case nF => k_is)
    (case nT => k_is)
    (case fi => k_is)
    (case z_len => k_is)
    (case z_int => k_is)
    (case z_max => k_is)
    (case z_abs => k_is)
    (case z_all => k_is)
    (case z_range => k_is)
    (case z_sorted => k_is)
    (case z_dict => k_is)
    (case z_sum => k_is)
#print axioms PySem.Challenge.cw_oneshard_k04_form_values_holds

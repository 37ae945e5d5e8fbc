import PyProof.Rows.All
import Wide.All
import OpenK.AllK
import Wide.FinOn
import HandS.Base
import HandS.Call
import HandS.List
import HandS.Comp
import HandS.Ends
import HandS.Dict
import HandS.Iter
import HandS.Text
import HandS.Words
import HandS.WordsList
import HandS.WordsDict
import HandS.Walk
import HandS.IsInst
import HandS.Defaults
import HandS.Codes
import HandS.More
import HandS.DictComp
import HandS.FStr
import HandS.OwnEq
import HandS.Property
import HandS.Style
import HandS.StrMore
import HandS.Exc
import HandS.ExcOwn
import HandS.ExcInit
import HandS.ExcField
import HandS.ExcIs
import HandS.TryOnly
import HandS.WordsExc
import HandS.Wide
import HandS.Star
import HandS.MakeKwOnly
import HandS.Finally
import KE.KCallOwn
import KE.KOpsOwn
import HandS.MakeKw
import PySem.Challenge.RW_oneshard_k02_form_parts
set_option Elab.async false
set_option linter.all false
set_option maxRecDepth 100000
set_option maxHeartbeats 2000000
namespace OS
open PySem L2
def top (i : Nat) : Stmt := PySem.Challenge.pw_oneshard_k02_form_parts.main.body.getD i (.Pass ⟨0, 0, 0, 0⟩)
abbrev sBadName_init : Stmt := inClass (top 2) 0
abbrev sUnknownName_init : Stmt := inClass (top 3) 0
abbrev sValid : Stmt := top 9
abbrev sDec : Stmt := top 13
abbrev sSgn : Stmt := top 14
abbrev sTerm : Stmt := top 15
abbrev sForm_init : Stmt := inClass (top 16) 0
abbrev sForm_coefficients : Stmt := inClass (top 16) 1
abbrev sForm_constant : Stmt := inClass (top 16) 2
abbrev sForm_getitem : Stmt := inClass (top 16) 3
abbrev sForm_contains : Stmt := inClass (top 16) 4
abbrev sForm_iter : Stmt := inClass (top 16) 5
abbrev sForm_len : Stmt := inClass (top 16) 6
abbrev sForm_eq : Stmt := inClass (top 16) 7
abbrev sForm_neg : Stmt := inClass (top 16) 8
abbrev sForm_add : Stmt := inClass (top 16) 9
abbrev sForm_radd : Stmt := inClass (top 16) 10
abbrev sForm_sub : Stmt := inClass (top 16) 11
abbrev sForm_rsub : Stmt := inClass (top 16) 12
abbrev sForm_mul : Stmt := inClass (top 16) 13
abbrev sForm_rmul : Stmt := inClass (top 16) 14
abbrev sForm_call : Stmt := inClass (top 16) 15
abbrev sForm_str : Stmt := inClass (top 16) 16
abbrev sStart : Stmt := top 18
abbrev sTake : Stmt := top 19
abbrev sSigns : Stmt := top 20
abbrev sGood : Stmt := top 21
abbrev s_name : Stmt := top 22
abbrev s_integer : Stmt := top 23
abbrev s_key : Stmt := top 24
abbrev s_agrees : Stmt := top 25
abbrev s_made : Stmt := top 26
abbrev sLaw : Stmt := top 27
end OS
namespace OS
open PySem L2
/-- but for st and cl all that was tracked is as it was -/
def Kb (st cl : Addr) (H H' : Hp) : Prop := ∀ b o, H b = some o → b ≠ st → b ≠ cl → H' b = some o
/-- the drawing state: its cells at cl, at most m draws so far -/
structure StAt (H : Hp) (st cl : Addr) (m : Nat) : Prop where
  ob : ∃ p c : Int, H st = some (.lst [.ref cl, .int p, .int c]) ∧ 0 ≤ c ∧ c ≤ m
  cs : ∃ ns : List Int, H cl = some (.lst (ns.map V.int)) ∧ ns.length ≤ 63
  ne : st ≠ cl
structure Bi (mg : Str → Option Value) : Prop where
  len : mg "len" = none
  int : mg "int" = none
  max : mg "max" = none
  abs : mg "abs" = none
def spTake : Sp := fun vs H Q _ => ∃ (st cl : Addr) (m : Nat) (lim : Int), vs = [.ref st, .int lim] ∧ StAt H st cl m ∧ m ≤ 1000000000 ∧ 0 < lim ∧ lim < 1073741824 ∧
  ∀ (n : Int) (H' : Hp), 0 ≤ n → n < lim → StAt H' st cl (m + 1) → Kb st cl H H' → Q (.int n) H'
theorem fmod_in {i j : Int} (h : 0 < j) : 0 ≤ i.fmod j ∧ i.fmod j < j := ⟨Int.fmod_nonneg_of_pos _ h, Int.fmod_lt_of_pos _ h⟩
theorem getD_int {ns : List Int} {k : Int} (h0 : 0 ≤ k) (h1 : k < (ns.length : Int)) : ∃ z : Int, (ns.map V.int)[k.toNat]? = some (V.int z) ∧ ns[k.toNat]? = some z := by
  have hk : k.toNat < ns.length := by omega
  refine ⟨ns[k.toNat], ?_, List.getElem?_eq_getElem hk⟩
  rw [List.getElem?_map, List.getElem?_eq_getElem hk]
  rfl
theorem ixN_in {n : Nat} {k : Int} (h0 : 0 ≤ k) (h1 : k < (n : Int)) : ixN n k = some k.toNat := by
  unfold ixN
  rw [if_pos h0, if_pos h1]
theorem atI_in {α : Type} {xs : List α} {k : Int} {v : α} (h0 : 0 ≤ k) (h : xs[k.toNat]? = some v) : atI xs k = some v := by
  have := atI_nat h
  rwa [Int.toNat_of_nonneg h0] at this
section
variable {P : Program} {w : World} {K : PySem.W.Frag} {mg : Str → Option Value} {base : Heap}
abbrev nTake : List Str := ["_law_state", "_law_limit", "_law_cells", "_law_at", "_law_cell", "_law_number"]
theorem scTake : FnScope nTake ["_law_state", "_law_limit"] (defScope sTake) := ⟨rfl, rfl, rfl, by decide +kernel, rfl, by decide +kernel, by decide +kernel⟩
theorem ok_take {f : Addr} {fd : FuncData} (F : Fun K "_law_take" "_law_take" sTake f fd) (T : Bi mg) : FnOk P w K mg base CX0 1 f fd ["_law_state", "_law_limit"] spTake := by
  refine F.ok scTake (fun vs H Q E h => ?_) (fun cdv A outer s H vs Q E hr h => ?_)
  · obtain ⟨st, cl, m, lim, rfl, _⟩ := h
    rfl
  · obtain ⟨st, cl, m, lim, rfl, S, hm, hl0, hl1, k⟩ := h
    obtain ⟨⟨p, c, hst, hc0, hc1⟩, ⟨ns, hcl, hn⟩, hne⟩ := S
    refine ⟨_, pss_cons (ps_set (i := 2) scTake.nd rfl (Or.inl rfl) (pe_ix ix_list (pv 0) pe_int fun _ _ => rfl))
      (pss_cons (ps_asg (pe_op op_add (pe_ix ix_list (pv 0) pe_int fun _ _ => rfl) pe_int) (pg_sub (pv 0) pe_int set_list))
      (pss_cons (ps_set (i := 3) scTake.nd rfl (Or.inl rfl) (pe_op op_modN (pe_callTy call_int1 (by rfl) T.int (by decide +kernel) (pa_cons (pe_ix ix_list (pv 0) pe_int fun _ _ => rfl) pa_nil))
          (pe_callB (call_max2 rfl) (by rfl) T.max (by decide +kernel) (pa_cons pe_int (pa_cons (pe_callB call_len_seq (by rfl) T.len PySem.boot_len (pa_cons (pv 2) pa_nil)) pa_nil)))))
      (pss_cons (ps_set (i := 4) scTake.nd rfl (Or.inl rfl) pe_int)
      (pss_cons (ps_if (pt_truth (pv 2) (by intro _; rfl)) (pss_one (ps_set (i := 4) scTake.nd rfl (Or.inl rfl) (pe_ix ix_list (pv 2) (pv 3) fun _ _ => rfl))) pss_nil)
      (pss_cons (ps_if (pt_cmpR op_ge (pe_callB call_abs (by rfl) T.abs (by decide +kernel) (pa_cons (pv 4) pa_nil)) (pe_op op_pow pe_int pe_int) (nomark _))
        (pss_cons (ps_asg (pe_op op_fdivN (pe_callB call_abs (by rfl) T.abs (by decide +kernel) (pa_cons (pv 4) pa_nil)) (pv 1)) (pg_sub (pv 2) (pv 3) set_list))
          (pss_one (ps_ret (pe_op op_modN (pe_callB call_abs (by rfl) T.abs (by decide +kernel) (pa_cons (pv 4) pa_nil)) (pv 1))))) pss_nil)
      (pss_cons (ps_asg (pe_op op_add (pe_ix ix_list (pv 0) pe_int fun _ _ => rfl) pe_int) (pg_sub (pv 0) pe_int set_list))
      (pss_cons (ps_set (i := 5) scTake.nd rfl (Or.inl rfl) (pe_op op_modN (pe_op op_pow (pe_callTy call_int1 (by rfl) T.int (by decide +kernel) (pa_cons (pe_op op_add (pe_op op_add (pe_op op_mul (pe_op op_modN (pe_callTy call_int1 (by rfl) T.int (by decide +kernel) (pa_cons (pv 4) pa_nil)) pe_int) pe_int) (pe_op op_mul (pe_ix ix_list (pv 0) pe_int fun _ _ => rfl) pe_int)) pe_int) pa_nil)) pe_int) pe_int))
      (pss_cons (ps_set (i := 5) scTake.nd rfl (Or.inl rfl) (pe_op op_modN (pe_op op_pow (pe_callTy call_int1 (by rfl) T.int (by decide +kernel) (pa_cons (pe_op op_add (pe_op op_add (pe_op op_mul (pv 5) pe_int) (pe_op op_mul (pe_ix ix_list (pv 0) pe_int fun _ _ => rfl) pe_int)) pe_int) pa_nil)) pe_int) pe_int))
      (pss_one (ps_ret (pe_op op_modN (pe_op op_fdivN (pv 5) pe_int) (pv 1)))))))))))), ?_⟩
    have a0 : atI [V.ref cl, V.int p, V.int c] 0 = some (V.ref cl) := rfl
    refine ⟨_, rfl, st, _, _, _, rfl, rfl, SqL.of hst, a0, ?_⟩
    -- state[2] = state[2] + 1
    refine ⟨_, rfl, st, _, _, V.int c, rfl, rfl, SqL.of hst, rfl, _, _, rfl, rfl, ?_⟩
    refine ⟨_, rfl, st, _, _, 2, rfl, rfl, hst, rfl, ?_⟩
    have h1 : ∀ o, (upd H st o) cl = some (.lst (ns.map V.int)) := fun o => by rw [upd_ne hne.symm]; exact hcl
    -- at = int(state[1]) % max(1, len(cells))
    refine ⟨_, rfl, st, _, _, V.int p, rfl, rfl, SqL.of upd_same, rfl, .inl ⟨_, rfl, ?_⟩⟩
    refine ⟨_, rfl, cl, ns.map V.int, rfl, .inl (SqL.of (h1 _)), _, _, rfl, ?_⟩
    have hL : (((ns.map V.int).length : Nat) : Int) = (ns.length : Int) := by rw [List.length_map]
    rw [hL]
    have hmx : ∃ mx : Int, (if (ns.length : Int) > 1 then (ns.length : Int) else 1) = mx ∧ 0 < mx ∧ (0 < ns.length → mx ≤ ns.length) := by
      refine ⟨_, rfl, ?_, fun _ => ?_⟩
      · split <;> omega
      · split <;> omega
    obtain ⟨mx, emx, mx0, mx1⟩ := hmx
    rw [emx]
    refine ⟨_, _, rfl, rfl, (by omega), ?_⟩
    obtain ⟨ka, kb⟩ := fmod_in (i := p) mx0
    obtain ⟨at_, hat⟩ : ∃ a, a = p.fmod mx := ⟨_, rfl⟩
    rw [← hat] at ka kb
    -- cell = 0; if cells: cell = cells[at]
    refine ⟨_, rfl, _, .inl ⟨_, SqL.of (h1 _), rfl⟩, ?_⟩
    show if (!(ns.map V.int).isEmpty) = true then _ else _
    have hE : (!(ns.map V.int).isEmpty) = decide (0 < ns.length) := by cases ns <;> simp
    rw [hE]
    rw [show (fun i j => V.int (Int.fmod i j)) p mx = V.int at_ by rw [hat]]
    have h10 : ((10 : Int) ^ (18 : Int).toNat) = 1000000000000000000 := by decide
    by_cases hp : 0 < ns.length
    all_goals first
      | have hp' : 0 < ns.length := hp
        rw [decide_eq_true hp]
        refine iteT ?_
        obtain ⟨z, hz1, hz2⟩ := getD_int (ns := ns) (k := at_) ka (by have := mx1 hp; omega)
        refine ⟨_, rfl, _, rfl, cl, _, _, V.int z, rfl, rfl, SqL.of (h1 _), atI_in ka hz1, ?_⟩
        have hz : z = 0 ∨ at_ < (ns.length : Int) := .inr (by have := mx1 hp; omega)
      | have hp' : ¬ 0 < ns.length := hp
        rw [decide_eq_false hp]
        refine iteF ?_
        obtain ⟨z, ez⟩ : ∃ z : Int, z = 0 := ⟨0, rfl⟩
        rw [show (some (V.int 0) : Option V) = some (V.int z) by rw [ez]]
        have hz : z = 0 ∨ at_ < (ns.length : Int) := .inl ez
    all_goals
      refine ⟨_, rfl, _, rfl, _, _, rfl, rfl, ⟨by decide, by decide, by decide⟩, _, _, rfl, rfl, _, rfl, ?_⟩
      rw [h10]
      obtain ⟨az, haz⟩ : ∃ az, az = (if z < 0 then -z else z) := ⟨_, rfl⟩
      have haz0 : 0 ≤ az := by rw [haz]; split <;> omega
      rw [← haz]
      refine ite2 (fun hb => ?_) (fun hb => ?_)
      · have hb' : (1000000000000000000 : Int) ≤ az := of_decide_eq_true hb
        have hat2 : at_ < (ns.length : Int) := by
          rcases hz with h | h
          · subst h; rw [haz] at hb'; simp at hb'
          · exact h
        refine ⟨_, rfl, _, rfl, _, rfl, _, _, rfl, rfl, ⟨by omega, by omega⟩, ?_⟩
        refine ⟨_, rfl, _, rfl, cl, _, _, at_.toNat, rfl, rfl, h1 _, ixN_in ka (by rw [List.length_map]; exact hat2), ?_⟩
        refine ⟨_, rfl, _, rfl, _, rfl, _, _, rfl, rfl, (by omega), ?_⟩
        rw [← haz]
        obtain ⟨k0, k1⟩ := fmod_in (i := az) hl0
        refine k _ _ k0 k1 ⟨⟨p, c + 1, ?_, by omega, by push_cast; omega⟩, ⟨ns.set at_.toNat (az.fdiv lim), ?_, by rw [List.length_set]; exact hn⟩, hne⟩ ?_
        · rw [upd_ne hne, upd_same]
          rfl
        · rw [upd_same, List.map_set]
        · intro b o e hb1 hb2
          rw [upd_ne hb2, upd_ne hb1]
          exact e
      · -- state[1] = state[1] + 1
        refine ⟨_, rfl, st, _, _, V.int p, rfl, rfl, SqL.of upd_same, rfl, _, _, rfl, rfl, ?_⟩
        refine ⟨_, rfl, st, _, _, 1, rfl, rfl, upd_same, rfl, ?_⟩
        -- number
        have r1 : ∀ i : Int, 0 ≤ i.fmod 2147483647 ∧ i.fmod 2147483647 < 2147483647 := fun i => fmod_in (by decide)
        obtain ⟨y1, hy1⟩ : ∃ y, y = z.fmod 2147483647 := ⟨_, rfl⟩
        obtain ⟨q1, q2⟩ := r1 z
        rw [← hy1] at q1 q2
        refine ⟨_, rfl, .inl ⟨_, rfl, ?_⟩⟩
        refine ⟨_, _, rfl, rfl, (by show (_ : Int) ≠ 0; decide), ?_⟩
        rw [show (fun i j => V.int (Int.fmod i j)) z 2147483647 = V.int y1 by rw [hy1]]
        refine ⟨_, _, rfl, rfl, .inl ⟨by omega, by omega⟩, ?_⟩
        refine ⟨_, rfl, st, _, _, V.int (c + 1), rfl, rfl, SqL.of upd_same, rfl, _, _, rfl, rfl, .inl ⟨by omega, by omega⟩, ?_⟩
        refine ⟨_, _, rfl, rfl, _, _, rfl, rfl, .inl ⟨_, rfl, ?_⟩⟩
        refine ⟨_, _, rfl, rfl, ⟨by decide, by decide, ?_⟩, ?_⟩
        · show (y1 * 48271 + (c + 1) * 69621 + 11).natAbs < 2 ^ 64
          omega
        refine ⟨_, _, rfl, rfl, (by show (_ : Int) ≠ 0; decide), ?_⟩
        obtain ⟨q3, q4⟩ := r1 ((y1 * 48271 + (c + 1) * 69621 + 11) ^ (5 : Int).toNat)
        obtain ⟨y2, hy2⟩ : ∃ y, y = ((y1 * 48271 + (c + 1) * 69621 + 11) ^ (5 : Int).toNat).fmod 2147483647 := ⟨_, rfl⟩
        rw [← hy2] at q3 q4
        refine ⟨_, rfl, _, _, rfl, rfl, .inl ⟨?_, ?_⟩, ?_⟩
        · show -(2 ^ 64) < (((y1 * 48271 + (c + 1) * 69621 + 11) ^ (5 : Int).toNat).fmod 2147483647)
          rw [← hy2]; omega
        · show (((y1 * 48271 + (c + 1) * 69621 + 11) ^ (5 : Int).toNat).fmod 2147483647) < 2 ^ 64
          rw [← hy2]; omega
        refine ⟨_, rfl, st, _, _, V.int (c + 1), rfl, rfl, SqL.of upd_same, rfl, _, _, rfl, rfl, .inl ⟨by omega, by omega⟩, ?_⟩
        refine ⟨_, _, rfl, rfl, _, _, rfl, rfl, .inl ⟨_, rfl, ?_⟩⟩
        refine ⟨_, _, rfl, rfl, ⟨by decide, by decide, ?_⟩, ?_⟩
        · show ((((y1 * 48271 + (c + 1) * 69621 + 11) ^ (5 : Int).toNat).fmod 2147483647) * 16807 + (c + 1) * 40692 + 7).natAbs < 2 ^ 64
          rw [← hy2]; omega
        refine ⟨_, _, rfl, rfl, (by show (_ : Int) ≠ 0; decide), ?_⟩
        refine ⟨_, rfl, _, _, rfl, rfl, ⟨by decide, by decide⟩, _, rfl, _, _, rfl, rfl, (by omega), ?_⟩
        obtain ⟨k0, k1⟩ := fmod_in (i := (((((((y1 * 48271 + (c + 1) * 69621 + 11) ^ (5 : Int).toNat).fmod 2147483647) * 16807 + (c + 1) * 40692 + 7) ^ (5 : Int).toNat).fmod 2147483629).fdiv 16)) hl0
        refine k _ _ k0 k1 ⟨⟨p + 1, c + 1, ?_, by omega, by push_cast; omega⟩, ⟨ns, ?_, hn⟩, hne⟩ ?_
        · rw [upd_same]
          rfl
        · rw [upd_ne hne.symm, upd_ne hne.symm]
          exact hcl
        · intro b o e hb1 hb2
          rw [upd_ne hb1, upd_ne hb1]
          exact e
def spStart (K : PySem.W.Frag) : Sp := fun vs H Q _ => ∃ (a : Addr) (ns : List Int), vs = [.ref a] ∧ SqL K H a (ns.map V.int) ∧ ns.length ≤ 63 ∧
  ∀ (st cl : Addr) (H' : Hp), StAt H' st cl 0 → Same H H' → H st = none → H cl = none → Q (.ref st) H'
abbrev nStart : List Str := ["_law_script", "_law_cell"]
theorem scStart : FnScope nStart ["_law_script"] (defScope sStart) := ⟨rfl, rfl, rfl, by decide +kernel, rfl, by decide +kernel, by decide +kernel⟩
theorem ok_start {f : Addr} {fd : FuncData} (F : Fun K "_law_start" "_law_start" sStart f fd) (T : Bi mg) : FnOk P w K mg base CX0 1 f fd ["_law_script"] (spStart K) := by
  refine F.ok scStart (fun vs H Q E h => ?_) (fun cdv A outer s H vs Q E hr h => ?_)
  · obtain ⟨a, ns, rfl, _⟩ := h
    rfl
  · obtain ⟨a, ns, rfl, hS, hn, k⟩ := h
    refine ⟨_, pss_one (ps_ret (pe_lst (pa_cons (pe_lc (own := [("_law_cell", 1)]) (g := gName 1) (tt := tYes) rfl scStart.nd (pi_list (pv 0)) (blkOk_by (own := [("_law_cell", 1)]) (N := nStart) (sc := defScope sStart) (by decide +kernel))
        (fun _ _ _ _ _ => pg_name (i := 1) scStart.nd rfl (Or.inl rfl)) (fun _ _ _ _ _ => pts_nil) (fun _ _ _ _ _ => pe_callTy call_int1 (by rfl) T.int (by decide +kernel) (pa_cons (pv 1) pa_nil)))
      (pa_cons pe_int (pa_cons pe_int pa_nil))))), ?_⟩
    refine ⟨_, rfl, a, rfl, ⟨_, hS⟩, fun D hD => lc_list (K := K) (a := a) (xs := ns.map V.int) (fun i H' => Same H H' ∧ H' D = some (.lst ((ns.take i).map V.int))) ⟨?_, ?_⟩ (fun i H' _ h => h.1.seq hS) ?_ ?_⟩
    · intro b o e
      rw [upd_ne (ne_of_none e hD)]
      exact e
    · rw [upd_same]
      rfl
    · intro i x H' hi ⟨s1, s2⟩
      obtain ⟨z, hz, rfl⟩ : ∃ z, ns[i]? = some z ∧ x = V.int z := by
        rw [List.getElem?_map] at hi
        cases e : ns[i]? with
        | none => rw [e] at hi; cases hi
        | some z => rw [e] at hi; exact ⟨z, rfl, (Option.some.inj hi).symm⟩
      have hil : i < ns.length := (List.getElem?_eq_some_iff.mp hz).1
      refine ⟨rfl, ?_⟩
      refine ⟨_, rfl, .inl ⟨_, rfl, _, s2, ?_, ?_, ?_⟩⟩
      · rw [List.length_map, List.length_take]
        exact small1000 (by omega)
      · intro b o e
        rw [upd_ne (ne_of_none e hD)]
        exact s1 b o e
      · rw [upd_same, List.take_succ, hz]
        simp
    · intro H' ⟨s1, s2⟩
      rw [List.length_map, List.take_length] at s2
      refine ⟨by show 3 ≤ sizeLine; decide, fun st hst => ?_⟩
      have hne : st ≠ D := (ne_of_none s2 hst).symm
      refine k st D _ ⟨⟨0, 0, upd_same, by decide, by decide⟩, ⟨ns, by rw [upd_ne hne.symm]; exact s2, hn⟩, hne⟩ ?_ ?_ hD
      · intro b o e
        rw [upd_ne (ne_of_none (s1 b o e) hst)]
        exact s1 b o e
      · exact s1.free hst
end
end OS
namespace OS
open PySem L2
abbrev lowL : Str := "abcdefghijklmnopqrstuvwxyz"
abbrev digL : Str := "0123456789"
def chOk (c : Nat) : Bool := decide (c ∈ lowL.cps.toList) || decide (c ∈ digL.cps.toList)
/-- what a name is, over a text's signs -/
def good (z : Str) : Bool :=
  if z = "mod" then false else if z.cps.toList.length < 1 ∨ 6 < z.cps.toList.length then false
  else if z.cps.toList.headD 0 ∈ lowL.cps.toList then z.cps.toList.all chOk else false
theorem Str.len_list (z : Str) : z.length = z.cps.toList.length := by
  show z.cps.size = _
  rw [Array.length_toList]
structure Nm (mg : Str → Option Value) : Prop where
  most : ∃ t, mg "MOST_CHARACTERS" = some (.int 6 t)
  let_ : ∃ t, mg "LETTERS" = some (.str lowL t)
  dig : ∃ t, mg "DIGITS" = some (.str digL t)
  res : ∃ t, mg "RESERVED" = some (.str "mod" t)
  all : mg "all" = none
theorem pe_gs {X : Cx} {x : Str} {pos : Pos} {z : Str} {t : Tok} (hg : Gl X x) (hm : X.mg x = some (.str z t)) (hd : (x == ("__debug__" : Str)) = false := by decide) : PE X (.Name x pos) (tC (.str z)) := pe_glob hg hm ⟨t, rfl⟩ hd
theorem pe_gi {X : Cx} {x : Str} {pos : Pos} {z : Int} {t : Tok} (hg : Gl X x) (hm : X.mg x = some (.int z t)) (hd : (x == ("__debug__" : Str)) = false := by decide) : PE X (.Name x pos) (tC (.int z)) := pe_glob hg hm ⟨t, rfl⟩ hd
def spValid : Sp := fun vs H Q _ => ∃ (z : Str), vs = [.str z] ∧ z.length ≤ 1000 ∧ ∀ H', Same H H' → Q (.bl (good z)) H'
section
variable {P : Program} {w : World} {K : PySem.W.Frag} {mg : Str → Option Value} {base : Heap}
abbrev nValid : List Str := ["text", "character"]
theorem scValid : FnScope nValid ["text"] (defScope sValid) := ⟨rfl, rfl, rfl, by decide +kernel, rfl, by decide +kernel, by decide +kernel⟩
theorem ok_valid {f : Addr} {fd : FuncData} (F : Fun K "valid_name" "valid_name" sValid f fd) (T : Bi mg) (N : Nm mg) : FnOk P w K mg base CX0 1 f fd ["text"] spValid := by
  obtain ⟨⟨t1, mM⟩, ⟨t2, mL⟩, ⟨t3, mD⟩, ⟨t4, mR⟩, mA⟩ := N
  refine F.ok scValid (fun vs H Q E h => ?_) (fun cdv A outer s H vs Q E hr h => ?_)
  · obtain ⟨z, rfl, _⟩ := h
    rfl
  · obtain ⟨z, rfl, hz, k⟩ := h
    refine ⟨_, pss_cons (ps_if (PW.pt (pw_or (pt_cmpR op_eq (pv 0) (pe_gs rfl mR) (nomark _)) (pw_or1 (pt_not (pt_chain op_le op_le pe_int (pe_callB call_len_str (by rfl) T.len PySem.boot_len (pa_cons (pv 0) pa_nil)) (pe_gi rfl mM)))))) (pss_one (ps_ret pe_bl)) pss_nil)
      (pss_cons (ps_if (pt_cmpR op_notIn_sign (pe_ix ix_str (pv 0) pe_int fun _ _ => rfl) (pe_gs rfl mL) rfl) (pss_one (ps_ret pe_bl)) pss_nil)
      (pss_one (ps_ret (pe_callB (cr_all rfl) (by rfl) mA (by decide +kernel) (pa_cons
        (pe_lc (own := [("character", 1)]) (g := gName 1) (tt := tYes) rfl scValid.nd (pi_str (pv 0)) (blkOk_by (own := [("character", 1)]) (N := nValid) (sc := defScope sValid) (by decide +kernel))
        (fun _ _ _ _ _ => pg_name (i := 1) scValid.nd rfl (Or.inl rfl)) (fun _ _ _ _ _ => pts_nil) (fun _ _ _ _ _ => pe_or (pe_cmpR op_in_sign (pv 1) (pe_gs rfl mL) rfl) (pe_one (pe_cmpR op_in_sign (pv 1) (pe_gs rfl mD) rfl)))) pa_nil))))), ?_⟩
    have hs : z.length ≤ sizeLine := Nat.le_of_lt (small1000 hz)
    have hln := Str.len_list z
    have edec : decide (V.str z = V.str "mod") = decide (z = "mod") := by
      by_cases h : z = "mod"
      · rw [decide_eq_true h, decide_eq_true (congrArg V.str h)]
      · rw [decide_eq_false h, decide_eq_false (fun e => h (V.str.inj e))]
    refine ⟨_, rfl, rfl, _, rfl, ?_⟩
    rw [edec]
    have hkf : ∀ H', Same H H' → good z = false → Q (.bl false) H' := fun H' s g => by have := k H' s; rwa [g] at this
    refine ite2 (fun hm => ?_) (fun hm => ?_)
    · exact hkf H (Same.refl H) (by unfold good; rw [if_pos (of_decide_eq_true hm)])
    have hm' : ¬ z = "mod" := fun e => hm (decide_eq_true e)
    have hkb : ∀ H', Same H H' → ¬ (1 ≤ z.length ∧ z.length ≤ 6) → Q (.bl false) H' := fun H' s g => hkf H' s (by unfold good; rw [if_neg hm', if_pos (by omega)])
    refine ⟨_, rfl, _, rfl, hs, _, _, rfl, rfl, _, rfl, ?_⟩
    refine ite2 (fun h1 => ?_) (fun h1 => ?_)
    rotate_left
    · have h1' : ¬ ((1 : Int) ≤ z.length) := fun e => h1 (decide_eq_true e)
      refine ⟨_, rfl, iteT ?_⟩
      exact hkb H (Same.refl H) (by omega)
    have h1' : (1 : Int) ≤ z.length := of_decide_eq_true h1
    refine ⟨_, _, rfl, rfl, _, rfl, ?_⟩
    by_cases h6 : (z.length : Int) ≤ 6
    rotate_left
    · rw [decide_eq_false h6]
      refine iteT ?_
      exact hkb H (Same.refl H) (by omega)
    rw [decide_eq_true h6]
    refine iteF ?_
    -- text[0] not in LETTERS
    obtain ⟨c0, l0, hl0⟩ : ∃ c0 l0, z.cps.toList = c0 :: l0 := by
      cases e : z.cps.toList with
      | nil => rw [e] at hln; simp at hln; omega
      | cons c l => exact ⟨c, l, rfl⟩
    refine ⟨_, rfl, _, _, c0, rfl, rfl, hs, ?_, _, _, rfl, rfl, _, rfl, ?_⟩
    · show atI _ _ = _
      exact atI_nat (j := 0) (by rw [hl0]; rfl)
    have gd : good z = (if c0 ∈ lowL.cps.toList then z.cps.toList.all chOk else false) := by
      unfold good
      rw [if_neg hm', if_neg (by omega), hl0]
      rfl
    by_cases hc : c0 ∈ lowL.cps.toList
    rotate_left
    · rw [decide_eq_false hc]
      refine iteT ?_
      exact hkf H (Same.refl H) (by rw [gd, if_neg hc])
    rw [decide_eq_true hc]
    refine iteF ?_
    rw [if_pos hc] at gd
    -- all([..])
    refine ⟨_, rfl, z, rfl, fun D hD => lc_it (walk_str (z := z)) (fun i H' => Same H H' ∧ H' D = some (.lst (((z.cps.toList.take i).map chOk).map V.bl))) ⟨?_, ?_⟩ (fun _ _ _ _ => trivial) ?_ ?_⟩
    · intro b o e
      rw [upd_ne (ne_of_none e hD)]
      exact e
    · rw [upd_same]
      rfl
    · intro i x H' H2 hi ⟨s1, s2⟩ ⟨e, c, hcc, ex⟩
      subst e
      subst ex
      have hcl : z.cps.toList[i]? = some c := by rw [Array.getElem?_toList]; exact hcc
      have step : Same H (upd H2 D (.lst (((z.cps.toList.take i).map chOk).map V.bl ++ [V.bl (chOk c)]))) ∧ (upd H2 D (.lst (((z.cps.toList.take i).map chOk).map V.bl ++ [V.bl (chOk c)]))) D = some (.lst (((z.cps.toList.take (i + 1)).map chOk).map V.bl)) := by
        refine ⟨fun b o e => ?_, ?_⟩
        · rw [upd_ne (ne_of_none e hD)]
          exact s1 b o e
        · rw [upd_same, List.take_succ, hcl]
          simp
      have hlen : (((z.cps.toList.take i).map chOk).map V.bl).length < sizeLine := by
        rw [List.length_map, List.length_map, List.length_take]
        exact small1000 (by omega)
      refine ⟨rfl, ?_⟩
      refine ⟨_, rfl, _, _, rfl, rfl, _, rfl, ?_⟩
      by_cases ha : c ∈ lowL.cps.toList
      · have ek : chOk c = true := by unfold chOk; rw [decide_eq_true ha]; rfl
        rw [ek] at step
        rw [decide_eq_true ha]
        refine iteT ?_
        exact ⟨_, s2, hlen, step⟩
      · have ek : chOk c = decide (c ∈ digL.cps.toList) := by unfold chOk; rw [decide_eq_false ha]; rfl
        rw [ek] at step
        rw [decide_eq_false ha]
        refine iteF ?_
        exact ⟨_, rfl, _, _, rfl, rfl, _, s2, hlen, step⟩
    · intro H' ⟨s1, s2⟩
      refine ⟨D, z.cps.toList.map chOk, rfl, ?_, ?_⟩
      · refine SqL.of ?_
        rw [s2, List.take_of_length_le (by rw [Array.length_toList]; exact Nat.le_refl _)]
      · have := k H' s1
        rw [gd] at this
        rw [List.all_map]
        exact this
end
end OS
namespace OS
open PySem L2 PySem.Spec PyProof.Rows
section
variable {X : Cx} {CX : CXT} {n : Nat} {f C : Addr} {fd : FuncData} {ps : List Str} {sp : Sp} {E : XK}
/-- a def run by the machine itself (an operator of an own class), somewhere below the running body -/
theorem run_at {A : Around} (F : FnOk X.prog X.w X.K X.mg X.base CX n f fd ps sp) (sb : Sub X n A) (hb : Binds X.K fd ps []) (hx : Passes CX X E) {pins : List (Addr × Obj)} {σ : L2.St} {H : Hp} {s : Shared} {vs : List V} {us : List Value} {Q : VK} {R : Value → Shared → Prop}
    (I : Inv X pins σ H s) (r : Vals vs us) (h : sp vs H Q E) (k : ∀ v u H' s', Inv X pins σ H' s' → RelV v u → Q v H' → R u s') : wpAny (model X.prog X.w) A (call (.ref f) us) R X.xe s := by
  have e0 : Env0 X.prog X.w X.K X.mg X.base A X.stack s H := by
    have e := I.env0
    exact ⟨by rw [sb.fr]; exact e.frames, e.mod, e.bs, e.bsz, e.funs, e.frf, e.hok, e.bare⟩
  have hl := F.len _ _ _ _ h
  refine wpAny_call (codeAny_mono (F.run A X.stack s H ⟨us, []⟩ us vs _ E sb.room e0 (by
    have := hb s us I.kIn (by rw [List.append_nil, ← r.length]; exact hl)
    simpa using this) r h) fun r' s' hq => ?_)
  cases r' with
  | error e => exact hx pins σ H s e s' I hq
  | ok fl =>
    cases fl with
    | ret u =>
      obtain ⟨v, H', I', rv, q⟩ := I.after hq
      exact k v u H' s' I' rv q
    | next => exact False.elim hq
    | brk => exact False.elim hq
    | cont => exact False.elim hq
theorem v1 {a : Addr} : Vals [V.ref a] [Value.ref a] := .cons rfl .nil
theorem v2 {a b : Addr} : Vals [V.ref a, V.ref b] [Value.ref a, Value.ref b] := .cons rfl (.cons rfl .nil)
theorem v2i {a : Addr} {i : Int} {t : Tok} : Vals [V.ref a, V.int i] [Value.ref a, Value.int i t] := .cons rfl (.cons ⟨t, rfl⟩ .nil)
theorem notImpl {v : V} {u : Value} {Q : Value → Shared → Prop} {s : Shared} (r : RelV v u) (q : Q u s) : PySem.W.CmpBack Q u s := by
  cases v with
  | non => cases r; exact q
  | bl b => cases r; exact q
  | int i => obtain ⟨t, rfl⟩ := r; exact q
  | str i => obtain ⟨t, rfl⟩ := r; exact q
  | byt i => obtain ⟨t, rfl⟩ := r; exact q
  | flt i => obtain ⟨t, rfl⟩ := r; exact q
  | ref i => cases r; exact q
  | ty i => cases r; exact q
/-- an own method found by name, as the machine asks it -/
structure Own (K : PySem.W.Frag) (C : Addr) (m : Str) (f : Addr) : Prop where
  at_ : PySem.W.findIn K (.ref C) m = some (some (.ref f))
  fn : PySem.W.isFn K (.ref f) = true
/-- one operand, an instance of the class at C -/
def rU1 (C : Addr) (sp : Sp) (E : XK) : V → Hp → VK → Prop := fun x H Q => ∃ a dx fs, x = .ref a ∧ H a = some (.ins C dx fs) ∧ sp [x] H Q E
/-- -x by the own __neg__ -/
theorem un_negO (F : FnOk X.prog X.w X.K X.mg X.base CX n f fd ps sp) (o : Own X.K C "__neg__" f) (hr : Room n X.A) (hb : Binds X.K fd ps []) (hx : Passes CX X E) : UnR X (unaryOp .USub) (rU1 C sp E) := by
  intro pins s σ H x v Q I rx h
  obtain ⟨a, dx, fs, rfl, ha, q⟩ := h
  cases rx
  obtain ⟨mA, J, _⟩ := ins_get I.hok ha
  obtain ⟨od, J, _⟩ := J.look
  obtain ⟨m, hF⟩ := I.fr
  exact PySem.W.ksp_neg hF I.ok.mod.kin J o.at_ o.fn (run_at F ⟨hr, rfl⟩ hb hx I v1 q fun v u H' s' I' rv qv => ⟨v, H', I', rv, qv⟩)
/-- an instance of the class at C on the left, an int on the right -/
def rB1 (C : Addr) (sp : Sp) (E : XK) : R2 := fun x y H Q => ∃ a dx fs i, x = .ref a ∧ y = .int i ∧ H a = some (.ins C dx fs) ∧ sp [x, y] H Q E
theorem op_ownI {op : Operator} {fo ro rc : Option Value} (F : FnOk X.prog X.w X.K X.mg X.base CX n f fd ps sp) (o : Own X.K C (PySem.dunder op.info.2) f) (hc : PySem.W.selfFirst X.K C = true)
    (hrr : PySem.W.findIn X.K (.ref C) (dunderR op.info.2) = some rc) (hp : rc = none ∨ ∃ g : Addr, rc = some (.ref g)) (h1 : PySem.W.findIn X.K (.type "int") (PySem.dunder op.info.2) = some fo) (h2 : PySem.W.findIn X.K (.type "int") (dunderR op.info.2) = some ro)
    (hsub : PySem.W.subIn X.K (.type "int") (.ref C) = some false) (hr : Room n X.A) (hb : Binds X.K fd ps []) (hx : Passes CX X E) : OpR X (binaryOp op) (rB1 C sp E) := by
  intro pins s σ H x y v u Q I rx ry h
  obtain ⟨a, dx, fs, i, rfl, rfl, ha, q⟩ := h
  cases rx
  obtain ⟨t, rfl⟩ := ry
  obtain ⟨mA, J, _⟩ := ins_get I.hok ha
  obtain ⟨od, J, _⟩ := J.look
  obtain ⟨m, hF⟩ := I.fr
  exact PySem.W.ksp_binT (T := "int") hF I.ok.mod.kin J rfl hc o.at_ o.fn hrr hp h1 h2 hsub (run_at F ⟨hr, rfl⟩ hb hx I v2i q fun v u H' s' I' rv qv => notImpl rv ⟨v, H', I', rv, qv⟩)
/-- two instances of the class at C -/
def rB2 (C : Addr) (sp : Sp) (E : XK) : R2 := fun x y H Q => ∃ a dx fs b dy gs, x = .ref a ∧ y = .ref b ∧ H a = some (.ins C dx fs) ∧ H b = some (.ins C dy gs) ∧ sp [x, y] H Q E
theorem op_own2 {op : Operator} (F : FnOk X.prog X.w X.K X.mg X.base CX n f fd ps sp) (o : Own X.K C (PySem.dunder op.info.2) f) (hc : PySem.W.selfFirst X.K C = true)
    (hr : Room n X.A) (hb : Binds X.K fd ps []) (hx : Passes CX X E) : OpR X (binaryOp op) (rB2 C sp E) := by
  intro pins s σ H x y v u Q I rx ry h
  obtain ⟨a, dx, fs, b, dy, gs, rfl, rfl, ha, hb', q⟩ := h
  cases rx
  cases ry
  obtain ⟨mA, J, _⟩ := ins_get I.hok ha
  obtain ⟨mB, J', _⟩ := ins_get I.hok hb'
  obtain ⟨od, J, _⟩ := J.look
  obtain ⟨od', J', _⟩ := J'.look
  obtain ⟨m, hF⟩ := I.fr
  exact PySem.W.binop_K hF I.ok.mod.kin J J'.type hc o.at_ o.fn (run_at F ⟨hr, rfl⟩ hb hx I v2 q fun v u H' s' I' rv qv => notImpl rv ⟨v, H', I', rv, qv⟩)
/-- str(x) by the own __str__ -/
def rStrO (C : Addr) (sp : Sp) (E : XK) : List V → Hp → VK → Prop := fun xs H Q => ∃ a dx fs, xs = [.ref a] ∧ H a = some (.ins C dx fs) ∧ sp xs H (fun v H' => (∃ z, v = .str z) ∧ Q v H') E
theorem call_strO (F : FnOk X.prog X.w X.K X.mg X.base CX n f fd ps sp) (o : Own X.K C "__str__" f) (hr : Room (n + 2) X.A) (hb : Binds X.K fd ps []) (hx : Passes CX X E) : CallR X (.type "str") (rStrO C sp E) := by
  intro pins s σ H xs us Q I r h
  obtain ⟨a, dx, fs, rfl, ha, q⟩ := h
  obtain ⟨u, rfl, ru⟩ := vals1 r
  cases ru
  obtain ⟨mA, J, _⟩ := ins_get I.hok ha
  obtain ⟨od, J, _⟩ := J.look
  have sb : Sub X n X.A.in1.in1 := (Sub.in1 (n := n) (Sub.in1 (n := n + 1) ⟨hr, rfl⟩))
  refine PySem.W.kso_call (by have := sb.room.units0; exact this) I.kIn J o.at_ o.fn (run_at F sb hb hx I v1 q fun v u H' s' I' rv qv => ?_)
  obtain ⟨⟨z, rfl⟩, qv⟩ := qv
  obtain ⟨t, rfl⟩ := id rv
  exact ⟨_, H', I', rv, qv⟩
end
end OS
namespace OS
open PySem L2 PySem.Spec PyProof.Rows
/-! ### texts in their order -/
theorem ltc_irr : ∀ a : List Nat, ltCps a a = false
  | [] => rfl
  | a :: r => by simp [ltCps, ltc_irr r]
theorem ltc_trans : ∀ {a b c : List Nat}, ltCps a b = true → ltCps b c = true → ltCps a c = true
  | [], [], _, h, _ => by simp [ltCps] at h
  | [], _ :: _, [], _, h => by simp [ltCps] at h
  | [], _ :: _, _ :: _, _, _ => rfl
  | _ :: _, [], _, h, _ => by simp [ltCps] at h
  | _ :: _, _ :: _, [], _, h => by simp [ltCps] at h
  | a :: r, b :: s, c :: t, h1, h2 => by
    simp only [ltCps, Bool.or_eq_true, decide_eq_true_eq, Bool.and_eq_true, beq_iff_eq] at h1 h2 ⊢
    rcases h1 with h1 | ⟨h1, h1'⟩ <;> rcases h2 with h2 | ⟨h2, h2'⟩
    · left; omega
    · left; omega
    · left; omega
    · right; exact ⟨by omega, ltc_trans h1' h2'⟩
theorem ltc_tot : ∀ a b : List Nat, a ≠ b → ltCps a b = true ∨ ltCps b a = true
  | [], [], h => absurd rfl h
  | [], _ :: _, _ => .inl rfl
  | _ :: _, [], _ => .inr rfl
  | a :: r, b :: t, h => by
    simp only [ltCps, Bool.or_eq_true, decide_eq_true_eq, Bool.and_eq_true, beq_iff_eq]
    rcases Nat.lt_trichotomy a b with q | q | q
    · exact .inl (.inl q)
    · subst q
      rcases ltc_tot r t (fun e => h (by rw [e])) with z | z
      · exact .inl (.inr ⟨rfl, z⟩)
      · exact .inr (.inr ⟨rfl, z⟩)
    · exact .inr (.inl q)
def Lt (a b : Str) : Prop := ltCps a.cps.toList b.cps.toList = true
theorem Lt.irr {a : Str} : ¬ Lt a a := fun h => by
  unfold Lt at h
  rw [ltc_irr] at h
  cases h
theorem Lt.trans {a b c : Str} (h : Lt a b) (k : Lt b c) : Lt a c := ltc_trans h k
theorem Str.ext_list {a b : Str} (h : a.cps.toList = b.cps.toList) : a = b := by
  cases a with | mk x => cases b with | mk y =>
    have : x = y := by rw [← Array.toArray_toList (xs := x), ← Array.toArray_toList (xs := y)]; exact congrArg List.toArray h
    rw [this]
theorem Lt.tot {a b : Str} (h : a ≠ b) : Lt a b ∨ Lt b a := ltc_tot _ _ fun e => h (Str.ext_list e)
/-- strictly rising -/
def Asc (l : List Str) : Prop := l.Pairwise Lt
theorem rising_asc : ∀ (l : List Str) (p : Str), risingS p l = true → (p :: l).Nodup → Asc (p :: l)
  | [], p, _, _ => List.pairwise_singleton _ _
  | x :: r, p, h, nd => by
    have h : (!ltCps x.cps.toList p.cps.toList && risingS x r) = true := h
    rw [Bool.and_eq_true] at h
    obtain ⟨h1, h2⟩ := h
    have nd2 : (x :: r).Nodup := (List.nodup_cons.mp nd).2
    have ih : Asc (x :: r) := rising_asc r x h2 nd2
    have hpx : Lt p x := by
      have hne : p ≠ x := fun e => (List.nodup_cons.mp nd).1 (by rw [e]; exact List.mem_cons_self)
      rcases Lt.tot hne with z | z
      · exact z
      · unfold Lt at z
        rw [z] at h1
        cases h1
    refine List.pairwise_cons.mpr ⟨fun y hy => ?_, ih⟩
    rcases List.mem_cons.mp hy with e | e
    · rw [e]; exact hpx
    · exact hpx.trans ((List.pairwise_cons.mp ih).1 y e)
theorem sorted_asc {l : List Str} (h : sortedS l = true) (nd : l.Nodup) : Asc l := by
  cases l with
  | nil => exact List.Pairwise.nil
  | cons x r => exact rising_asc r x h nd
theorem asc_unique : ∀ {l m : List Str}, Asc l → Asc m → (∀ x, x ∈ l ↔ x ∈ m) → l = m
  | [], [], _, _, _ => rfl
  | [], y :: m, _, _, h => absurd ((h y).mpr List.mem_cons_self) (by simp)
  | x :: l, [], _, _, h => absurd ((h x).mp List.mem_cons_self) (by simp)
  | x :: l, y :: m, hl, hm, h => by
    obtain ⟨l1, l2⟩ := List.pairwise_cons.mp hl
    obtain ⟨m1, m2⟩ := List.pairwise_cons.mp hm
    have e : x = y := by
      rcases List.mem_cons.mp ((h x).mp List.mem_cons_self) with e | e
      · exact e
      · rcases List.mem_cons.mp ((h y).mpr List.mem_cons_self) with f | f
        · exact f.symm
        · exact absurd ((m1 x e).trans (l1 y f)) Lt.irr
    subst e
    rw [asc_unique l2 m2 fun z => ?_]
    constructor
    · intro hz
      rcases List.mem_cons.mp ((h z).mp (List.mem_cons_of_mem _ hz)) with q | q
      · exact absurd (q ▸ l1 z hz) Lt.irr
      · exact q
    · intro hz
      rcases List.mem_cons.mp ((h z).mpr (List.mem_cons_of_mem _ hz)) with q | q
      · exact absurd (q ▸ m1 z hz) Lt.irr
      · exact q
/-! ### coefficients -/
abbrev Cf := List (Str × Int)
def lookO (kvs : Cf) (k : Str) : Option Int := (kvs.find? fun e => decide (e.1 = k)).map (·.2)
/-- the coefficient of a name, 0 where it is not there -/
def look (kvs : Cf) (k : Str) : Int := (lookO kvs k).getD 0
/-- as the pairs of a dict -/
def dk (kvs : Cf) : List (Key × V) := kvs.map fun e => (Sum.inr e.1, V.int e.2)
theorem lookO_cons (e : Str × Int) (r : Cf) (k : Str) : lookO (e :: r) k = if e.1 = k then some e.2 else lookO r k := by
  unfold lookO
  rw [List.find?_cons]
  by_cases h : e.1 = k <;> simp [h]
theorem valV_dk (k : Str) : ∀ kvs : Cf, valV (dk kvs) (Sum.inr k : Key) = (lookO kvs k).map V.int
  | [] => rfl
  | e :: r => by
    have ih := valV_dk k r
    rw [lookO_cons]
    by_cases h : e.1 = k
    · rw [if_pos h]
      show valV ((Sum.inr e.1, V.int e.2) :: dk r) _ = _
      rw [valV_pos (by rw [h])]
      rfl
    · rw [if_neg h]
      show valV ((Sum.inr e.1, V.int e.2) :: dk r) _ = _
      rw [valV_neg (fun q => h (Sum.inr.inj q))]
      exact ih
theorem lookO_mem : ∀ {kvs : Cf} {k : Str} {v : Int}, lookO kvs k = some v → (k, v) ∈ kvs
  | [], k, v, h => by cases h
  | e :: r, k, v, h => by
    rw [lookO_cons] at h
    by_cases q : e.1 = k
    · rw [if_pos q] at h
      cases h
      rw [← q]
      exact List.mem_cons_self
    · rw [if_neg q] at h
      exact List.mem_cons_of_mem _ (lookO_mem h)
theorem lookO_none : ∀ {kvs : Cf} {k : Str}, lookO kvs k = none ↔ k ∉ kvs.map (·.1)
  | [], k => by simp [lookO]
  | e :: r, k => by
    rw [lookO_cons, List.map_cons, List.mem_cons]
    by_cases q : e.1 = k
    · rw [if_pos q]
      constructor
      · intro h; cases h
      · intro h; exact absurd (Or.inl q.symm) h
    · rw [if_neg q, lookO_none]
      constructor
      · rintro h (z | z)
        · exact q z.symm
        · exact h z
      · intro h z; exact h (Or.inr z)
theorem lookO_of_mem : ∀ {kvs : Cf} {k : Str} {v : Int}, (kvs.map (·.1)).Nodup → (k, v) ∈ kvs → lookO kvs k = some v
  | [], k, v, _, h => by cases h
  | e :: r, k, v, nd, h => by
    rw [List.map_cons] at nd
    obtain ⟨n1, n2⟩ := List.nodup_cons.mp nd
    rw [lookO_cons]
    rcases List.mem_cons.mp h with q | q
    · rw [← q, if_pos rfl]
    · rw [if_neg (fun z => n1 (by rw [z]; exact List.mem_map.mpr ⟨_, q, rfl⟩)), lookO_of_mem n2 q]
theorem look_none {kvs : Cf} {k : Str} (h : k ∉ kvs.map (·.1)) : look kvs k = 0 := by
  unfold look
  rw [lookO_none.mpr h]
  rfl
theorem asc_nodup {l : List Str} (h : Asc l) : l.Nodup := List.Pairwise.imp (fun {a b} h e => by subst e; exact Lt.irr h) h
/-- the coefficients of a form: names strictly rising, none 0 -/
structure Can (cs : Cf) : Prop where
  asc : Asc (cs.map (·.1))
  nz : ∀ e ∈ cs, e.2 ≠ 0
theorem Can.nd {cs : Cf} (h : Can cs) : (cs.map (·.1)).Nodup := asc_nodup h.asc
theorem Can.mem_iff {cs : Cf} (h : Can cs) (k : Str) : k ∈ cs.map (·.1) ↔ look cs k ≠ 0 := by
  constructor
  · intro hk
    obtain ⟨e, he, rfl⟩ := List.mem_map.mp hk
    have : lookO cs e.1 = some e.2 := lookO_of_mem h.nd he
    unfold look
    rw [this]
    exact h.nz e he
  · intro hk
    cases Classical.em (k ∈ cs.map (·.1)) with
    | inl z => exact z
    | inr z => exact absurd (look_none z) hk
theorem Can.eq_map {cs : Cf} (h : Can cs) : cs = (cs.map (·.1)).map fun k => (k, look cs k) := by
  rw [List.map_map]
  conv => lhs; rw [← List.map_id cs]
  refine List.map_congr_left fun e he => ?_
  show e = (e.1, look cs e.1)
  unfold look
  rw [lookO_of_mem h.nd (k := e.1) (v := e.2) he]
  rfl
theorem Can.unique {cs ds : Cf} (h : Can cs) (k : Can ds) (e : ∀ x, look cs x = look ds x) : cs = ds := by
  have hm : cs.map (·.1) = ds.map (·.1) := asc_unique h.asc k.asc fun x => by rw [h.mem_iff, k.mem_iff, e]
  rw [h.eq_map, k.eq_map, hm]
  refine List.map_congr_left fun x _ => ?_
  rw [e]
/-- the names of ys whose coefficient is not 0 -/
def pick (g : Str → Int) (ys : List Str) : Cf := (ys.filter fun k => decide (g k ≠ 0)).map fun k => (k, g k)
theorem pick_names (g : Str → Int) (ys : List Str) : (pick g ys).map (·.1) = ys.filter fun k => decide (g k ≠ 0) := by
  unfold pick
  rw [List.map_map]
  exact List.map_id _
theorem pick_can {g : Str → Int} {ys : List Str} (h : Asc ys) : Can (pick g ys) := by
  refine ⟨?_, ?_⟩
  · rw [pick_names]
    exact List.Pairwise.filter _ h
  · intro e he
    unfold pick at he
    obtain ⟨k, hk, rfl⟩ := List.mem_map.mp he
    exact of_decide_eq_true (List.mem_filter.mp hk).2
theorem pick_look {g : Str → Int} {ys : List Str} (h : Asc ys) (hs : ∀ k, g k ≠ 0 → k ∈ ys) (k : Str) : look (pick g ys) k = g k := by
  cases Classical.em (g k = 0) with
  | inl z =>
    rw [z]
    refine look_none ?_
    rw [pick_names]
    intro m
    exact of_decide_eq_true (List.mem_filter.mp m).2 z
  | inr z =>
    have : lookO (pick g ys) k = some (g k) := lookO_of_mem (pick_can h).nd (List.mem_map.mpr ⟨k, List.mem_filter.mpr ⟨hs k z, decide_eq_true z⟩, rfl⟩)
    unfold look
    rw [this]
    rfl
theorem pick_snoc (g : Str → Int) (ys : List Str) (y : Str) : pick g (ys ++ [y]) = if g y ≠ 0 then pick g ys ++ [(y, g y)] else pick g ys := by
  unfold pick
  rw [List.filter_append]
  by_cases h : g y = 0
  · rw [if_neg (fun z => z h)]
    simp [h]
  · rw [if_pos h]
    simp [h]
theorem dk_snoc (cs : Cf) (k : Str) (v : Int) : dk (cs ++ [(k, v)]) = dk cs ++ [(Sum.inr k, V.int v)] := by
  unfold dk
  rw [List.map_append]
  rfl
theorem dk_put_new {cs : Cf} {k : Str} {v : Int} (h : k ∉ cs.map (·.1)) : putK (dk cs) (Sum.inr k : Key) (V.int v) = dk (cs ++ [(k, v)]) := by
  rw [putK_new _ (by rw [valV_dk, lookO_none.mpr h]; rfl), dk_snoc]
theorem dk_len (cs : Cf) : (dk cs).length = cs.length := List.length_map _
/-- d[k] = v -/
def putC (cs : Cf) (k : Str) (v : Int) : Cf := if k ∈ cs.map (·.1) then cs.map (fun e => if e.1 = k then (e.1, v) else e) else cs ++ [(k, v)]
theorem dk_put (cs : Cf) (k : Str) (v : Int) : putK (dk cs) (Sum.inr k : Key) (V.int v) = dk (putC cs k v) := by
  unfold putC
  by_cases h : k ∈ cs.map (·.1)
  · rw [if_pos h]
    unfold putK
    have ha : ((dk cs).any fun kv => decide (kv.1 = (Sum.inr k : Key))) = true := by
      obtain ⟨e, he, q⟩ := List.mem_map.mp h
      exact List.any_eq_true.mpr ⟨(Sum.inr e.1, V.int e.2), List.mem_map.mpr ⟨e, he, rfl⟩, decide_eq_true (by rw [← q])⟩
    rw [if_pos ha]
    unfold dk
    rw [List.map_map, List.map_map]
    refine List.map_congr_left fun e _ => ?_
    by_cases q : e.1 = k
    · simp [q]
    · have q' : ¬ (Sum.inr e.1 : Key) = Sum.inr k := fun z => q (Sum.inr.inj z)
      simp [q, q']
  · rw [if_neg h, dk_put_new h]
theorem putC_look (cs : Cf) (k : Str) (v : Int) (j : Str) : lookO (putC cs k v) j = if j = k then some v else lookO cs j := by
  have e1 := valV_dk j (putC cs k v)
  rw [← dk_put, valV_put, valV_dk] at e1
  by_cases h : j = k
  · rw [if_pos h]
    rw [if_pos (by rw [h])] at e1
    cases q : lookO (putC cs k v) j with
    | none => rw [q] at e1; cases e1
    | some z => rw [q] at e1; cases e1; rfl
  · rw [if_neg h]
    rw [if_neg (fun z => h (Sum.inr.inj z))] at e1
    cases q : lookO (putC cs k v) j with
    | none => rw [q] at e1; cases q2 : lookO cs j with
      | none => rfl
      | some z => rw [q2] at e1; cases e1
    | some z => rw [q] at e1; cases q2 : lookO cs j with
      | none => rw [q2] at e1; cases e1
      | some y => rw [q2] at e1; cases e1; rfl
theorem putC_names (cs : Cf) (k : Str) (v : Int) : (putC cs k v).map (·.1) = if k ∈ cs.map (·.1) then cs.map (·.1) else cs.map (·.1) ++ [k] := by
  unfold putC
  by_cases h : k ∈ cs.map (·.1)
  · rw [if_pos h, if_pos h, List.map_map]
    refine List.map_congr_left fun e _ => ?_
    show (if e.1 = k then (e.1, v) else e).1 = e.1
    split <;> rfl
  · rw [if_neg h, if_neg h, List.map_append]
    rfl
theorem putC_nd {cs : Cf} {k : Str} {v : Int} (h : (cs.map (·.1)).Nodup) : ((putC cs k v).map (·.1)).Nodup := by
  rw [putC_names]
  by_cases q : k ∈ cs.map (·.1)
  · rw [if_pos q]; exact h
  · rw [if_neg q]; exact nd_snoc h q
theorem putC_len (cs : Cf) (k : Str) (v : Int) : (putC cs k v).length ≤ cs.length + 1 := by
  have := congrArg List.length (putC_names cs k v)
  rw [List.length_map] at this
  rw [this]
  split
  · rw [List.length_map]; omega
  · rw [List.length_append, List.length_map]; exact Nat.le_refl _
theorem putC_mem {cs : Cf} {k : Str} {v : Int} {e : Str × Int} (h : e ∈ putC cs k v) : e = (k, v) ∨ e ∈ cs := by
  unfold putC at h
  by_cases q : k ∈ cs.map (·.1)
  · rw [if_pos q] at h
    obtain ⟨f, hf, rfl⟩ := List.mem_map.mp h
    by_cases z : f.1 = k
    · rw [if_pos z, z]; exact Or.inl rfl
    · rw [if_neg z]; exact Or.inr hf
  · rw [if_neg q] at h
    rcases List.mem_append.mp h with z | z
    · exact Or.inr z
    · exact Or.inl (List.mem_singleton.mp z)
end OS
namespace OS
open PySem L2 PySem.Spec PyProof.Rows
section
variable {X : Cx} {CX : CXT} {n : Nat} {f C : Addr} {fd : FuncData} {ps : List Str} {sp : Sp} {E : XK} {a b : Expr} {ta tb : TE} {pos : Pos}
/-- an instance asked by [..], in, len -/
def rG (C : Addr) (sp : Sp) (E : XK) : R2 := fun x y H Q => ∃ p dx fs, x = .ref p ∧ H p = some (.ins C dx fs) ∧ sp [x, y] H Q E
/-- o[i] by the own __getitem__ -/
theorem pe_getO (F : FnOk X.prog X.w X.K X.mg X.base CX n f fd ps sp) (o : Own X.K C "__getitem__" f) (fi : PySem.W.fnIn X.K f = true) (hr : Room (n + 1) X.A) (hb : Binds X.K fd ps []) (hx : Passes CX X E) (ha : PE X a ta) (hc : PE X b tb)
    (hs : ∀ x i, subscripted b true (.ref x) i = runValue (.builtin "lifetime.subscript" ⟨[.ref x, i], []⟩) := by intro _ _; rfl) : PE X (.Subscript a b pos) (tOp (rG C sp E) ta tb) := by
  refine ⟨fun pins s σ H Q I h => ?_⟩
  refine Subscript_ (binT ha hc I h fun v u s2 x y H2 I2 rx ry q => ?_)
  obtain ⟨p, dx, fs, rfl, hp, q⟩ := q
  cases rx
  obtain ⟨mA, J, _⟩ := ins_get I2.hok hp
  obtain ⟨od, J, _⟩ := J.look
  obtain ⟨m, hF⟩ := I2.fr
  have rv : Vals [V.ref p, y] [Value.ref p, u] := .cons rfl (.cons ry .nil)
  exact PySem.W.sub_K hF I2.ok.mod.kin J o.at_ fi o.fn (run_at F (Sub.in1 (n := n) ⟨hr, rfl⟩) hb hx I2 rv q fun v u H' s' I' rv qv => ⟨v, H', I', rv, qv⟩) (hs _ _)
/-- k in o, k not in o by the own __contains__ -/
def rInO (C : Addr) (sp : Sp) (E : XK) (g : Bool → Bool) : R2 := fun x y H Q => ∃ p dx fs, y = .ref p ∧ H p = some (.ins C dx fs) ∧ sp [y, x] H (fun v H' => ∃ k, v = .bl k ∧ Q (.bl (g k)) H') E
theorem op_inO (F : FnOk X.prog X.w X.K X.mg X.base CX n f fd ps sp) (o : Own X.K C "__contains__" f) (hr : Room n X.A) (hb : Binds X.K fd ps []) (hx : Passes CX X E) : OpR X (compareOp .In) (rInO C sp E id) := by
  intro pins s σ H x y v u Q I rx ry h
  obtain ⟨p, dx, fs, rfl, hp, q⟩ := h
  cases ry
  obtain ⟨mA, J, _⟩ := ins_get I.hok hp
  obtain ⟨od, J, _⟩ := J.look
  obtain ⟨m, hF⟩ := I.fr
  have rv : Vals [V.ref p, x] [Value.ref p, v] := .cons rfl (.cons rx .nil)
  refine PySem.W.in_K hF I.ok.mod.kin J o.at_ o.fn (run_at F ⟨hr, rfl⟩ hb hx I rv q fun v u H' s' I' rv qv => ?_)
  obtain ⟨k, rfl, qv⟩ := qv
  cases rv
  exact wpAny_truthy_bool ⟨.bl (id k), H', I', rfl, qv⟩
/-- len(o) by the own __len__ -/
def rLenO (C : Addr) (sp : Sp) (E : XK) : List V → Hp → VK → Prop := fun xs H Q => ∃ p dx fs, xs = [.ref p] ∧ H p = some (.ins C dx fs) ∧ sp xs H (fun v H' => (∃ i : Int, v = .int i ∧ 0 ≤ i ∧ i < 2 ^ 63) ∧ Q v H') E
theorem call_lenO (F : FnOk X.prog X.w X.K X.mg X.base CX n f fd ps sp) (o : Own X.K C "__len__" f) (hr : Room (n + 1) X.A) (hb : Binds X.K fd ps []) (hx : Passes CX X E) : CallR X (.builtin "len") (rLenO C sp E) := by
  intro pins s σ H xs us Q I r h
  obtain ⟨p, dx, fs, rfl, hp, q⟩ := h
  obtain ⟨u, rfl, ru⟩ := vals1 r
  cases ru
  obtain ⟨mA, J, _⟩ := ins_get I.hok hp
  obtain ⟨od, J, _⟩ := J.look
  obtain ⟨m, hF⟩ := I.fr
  refine PySem.W.len_K hF I.ok.mod.kin J o.at_ o.fn (run_at F (Sub.in1 (n := n) ⟨hr, rfl⟩) hb hx I v1 q fun v u H' s' I' rv qv => ?_)
  obtain ⟨⟨i, rfl, h0, h1⟩, qv⟩ := qv
  obtain ⟨t, rfl⟩ := rv
  exact ⟨⟨h0, h1⟩, .int i, H', I'.tok _, ⟨_, rfl⟩, qv⟩
end
/-! ### a new instance where what is raised is wished for at the caller's slots -/
section
variable {X : Cx} {CX : CXT} {k n : Nat} {f C : Addr} {fd : FuncData} {ps ks : List Str} {sp : Sp} {E : L2.St → XK} {x : Str} {p pos : Pos} {e : Expr} {es : List Expr} {kws : List Keyword} {t tk : TA} {g : List Value → List Value → List Value} {gV : List V → List V → List V} {ds : List Value} {dvs : List V}
theorem run_makeKS {pins : List (Addr × Obj)} {σ : L2.St} {H : Hp} {s : Shared} {Q : VK} {us ws : List Value} {vs zs : List V} (M : Mk X.K C f) (F : FnOk X.prog X.w X.K X.mg X.base CX k f fd ps sp) (hr : Room (k + 1) X.A) (hb : KBn X.K fd ps (n + 1) ks g gV) (hx : PassesAt CX X σ (E σ))
    (I : Inv X pins σ H s) (r : Vals vs us) (rz : Vals zs ws) (l1 : vs.length = n) (l2 : zs.length = ks.length)
    (h : ∀ x dx, H x = none → H dx = none → dx ≠ x → sp (gV (.ref x :: vs) zs) (upd (upd H dx (.own x)) x (.ins C dx [])) (fun v H2 => v = .non ∧ Q (.ref x) H2) (E σ)) :
    wpAny (model X.prog X.w) X.A (call (.ref C) us (ks.zip ws)) (EP X pins σ Q) X.xe s := by
  have hq := h (s.heap.objs.size + 1) s.heap.objs.size (I.hok.fresh (Nat.le_succ _)) (I.hok.fresh (Nat.le_refl _)) (Nat.ne_of_lt (Nat.lt_succ_self _))
  have I2 := Inv.made (C := C) I
  have r1 : Vals (V.ref (s.heap.objs.size + 1) :: vs) (Value.ref (s.heap.objs.size + 1) :: us) := .cons rfl r
  have r2 := hb.rel r1 rz
  have n1 : (Value.ref (s.heap.objs.size + 1) :: us).length = n + 1 := by
    rw [List.length_cons, ← r.length, l1]
  refine wpAny_call (make_map (f := f) I.kIn M.makes M.init (beq_iff_eq.mp M.fn) (codeAny_mono (F.run _ X.stack _ _ ⟨Value.ref (s.heap.objs.size + 1) :: us, ks.zip ws⟩ (g (Value.ref (s.heap.objs.size + 1) :: us) ws) _ _ (E σ) (hr.make C us (ks.zip ws))
    (I2.env0.make C us (ks.zip ws)) (hb.to _ (Value.ref (s.heap.objs.size + 1) :: us) ws I2.kIn n1 (rz.length.symm.trans l2)) r2 hq) fun r s' hq' => ?_))
  cases r with
  | error e => exact hx pins _ _ e s' I2 hq'
  | ok fl =>
    cases fl with
    | ret u =>
      obtain ⟨v, H', I3, rv, ev, q3⟩ := I2.after hq'
      subst ev
      exact ⟨rv, ⟨V.ref (s.heap.objs.size + 1), H', I3, rfl, q3⟩⟩
    | next => exact False.elim hq'
    | brk => exact False.elim hq'
    | cont => exact False.elim hq'
/-- C(e, .., k = v, ..), whatever of them is there -/
def tMakeKS (C : Addr) (n m : Nat) (sp : Sp) (gV : List V → List V → List V) (E : L2.St → XK) (t tk : TA) : TE := fun σ H Q => t σ H fun vs H1 => tk σ H1 fun zs H2 => vs.length = n ∧ zs.length = m ∧ ∀ x dx, H2 x = none → H2 dx = none → dx ≠ x →
  sp (gV (.ref x :: vs) zs) (upd (upd H2 dx (.own x)) x (.ins C dx [])) (fun v H3 => v = .non ∧ Q (.ref x) H3) (E σ)
theorem pe_makeKS0 (M : Mk X.K C f) (F : FnOk X.prog X.w X.K X.mg X.base CX k f fd ps sp) (hr : Room (k + 1) X.A) (hg : Gl X x) (hm : X.mg x = some (.ref C)) (hb : KBn X.K fd ps 1 ks g gV) (hx : ∀ σ, PassesAt CX X σ (E σ)) (hkw : PK X kws tk)
    (hall : (backToKw pos (keywordEach kws X.env)).all (·.1.isSome) = true := by rfl) (hks : (backToKw pos (keywordEach kws X.env)).filterMap (·.1) = ks := by rfl) (hdb : (x == ("__debug__" : Str)) = false := by decide)
    (hpl : ((backTo pos (starEach [] X.env)).any (·.1) || (backToKw pos (keywordEach kws X.env)).any (·.1.isNone)) = false := by rfl) :
    PE X (.Call (.Name x p) [] kws pos) (tMakeKS C 0 ks.length sp gV E tNil tk) := by
  refine ⟨fun pins s σ H Q I h => ?_⟩
  refine wpAny_Call_Name_kw (ld_glob I hg hm ?_ hdb)
  refine PySem.W.callWith_KW0 (h₀ := X.base) I.ok.mod.kin M.kp hall ?_ hpl
  refine thn (hkw.run pos pins s σ H _ I h) fun ws s2 ⟨zs, H2, I2, rz, l1, l2, q2⟩ => ⟨I2.kIn, ?_⟩
  rw [hks]
  exact run_makeKS (us := []) (vs := []) M F hr hb (hx σ) I2 .nil rz rfl l2 q2
theorem pe_makeKS (M : Mk X.K C f) (F : FnOk X.prog X.w X.K X.mg X.base CX k f fd ps sp) (hr : Room (k + 1) X.A) (hg : Gl X x) (hm : X.mg x = some (.ref C)) (hb : KBn X.K fd ps (n + 1) ks g gV) (hx : ∀ σ, PassesAt CX X σ (E σ)) (ha : PA X (e :: es) t) (hkw : PK X kws tk)
    (hall : (backToKw pos (keywordEach kws X.env)).all (·.1.isSome) = true := by rfl) (hks : (backToKw pos (keywordEach kws X.env)).filterMap (·.1) = ks := by rfl) (hdb : (x == ("__debug__" : Str)) = false := by decide)
    (he : starEach (e :: es) X.env = (false, eval e X.env) :: starEach es X.env := by rfl) (hpl : ((backTo pos (starEach (e :: es) X.env)).any (·.1) || (backToKw pos (keywordEach kws X.env)).any (·.1.isNone)) = false := by rfl) :
    PE X (.Call (.Name x p) (e :: es) kws pos) (tMakeKS C n ks.length sp gV E t tk) := by
  refine ⟨fun pins s σ H Q I h => ?_⟩
  refine wpAny_Call_Name_kw (ld_glob I hg hm ?_ hdb)
  refine PySem.W.callWith_KW (h₀ := X.base) I.ok.mod.kin M.kp hall (thn (ha.run pos pins s σ H _ I h) fun us s1 ⟨vs, H1, I1, r, q⟩ => ?_) hpl he
  refine thn (hkw.run pos pins s1 σ H1 _ I1 q) fun ws s2 ⟨zs, H2, I2, rz, l1, l2, q2⟩ => ⟨I2.kIn, ?_⟩
  rw [hks]
  exact run_makeKS M F hr hb (hx σ) I2 r rz l1 l2 q2
end
end OS
namespace OS
open PySem L2
/-- a def of the module's, by its name -/
structure Df (K : PySem.W.Frag) (mg : Str → Option Value) (x : Str) (f : Addr) : Prop where
  mg : mg x = some (.ref f)
  kp : PySem.W.keepIn K (.ref f) = true
theorem StAt.upd {H : Hp} {st cl : Addr} {m : Nat} {D : Addr} {o : HO} (S : StAt H st cl m) (h1 : D ≠ st) (h2 : D ≠ cl) : StAt (upd H D o) st cl m := by
  obtain ⟨⟨p, c, a, b⟩, ⟨ns, e, l⟩, n⟩ := S
  exact ⟨⟨p, c, by rw [upd_ne h1.symm]; exact a, b⟩, ⟨ns, by rw [upd_ne h2.symm]; exact e, l⟩, n⟩
theorem StAt.nst {H : Hp} {st cl : Addr} {m : Nat} {D : Addr} (S : StAt H st cl m) (h : H D = none) : D ≠ st ∧ D ≠ cl := by
  obtain ⟨⟨p, c, a, b⟩, ⟨ns, e, l⟩, n⟩ := S
  exact ⟨(ne_of_none a h).symm, (ne_of_none e h).symm⟩
theorem StAt.same {H H' : Hp} {st cl : Addr} {m : Nat} (S : StAt H st cl m) (h : Same H H') : StAt H' st cl m := by
  obtain ⟨⟨p, c, a, b⟩, ⟨ns, e, l⟩, n⟩ := S
  exact ⟨⟨p, c, h _ _ a, b⟩, ⟨ns, h _ _ e, l⟩, n⟩
theorem sameUpd {H H' : Hp} {p : Addr} {o : HO} (s : Same H H') (h : H p = none) : Same H (L2.upd H' p o) := fun b u e => by
  rw [upd_ne (ne_of_none e h)]
  exact s b u e
end OS
namespace OS
open PySem L2
/-- a dict comprehension over anything walked -/
theorem dc_it {J : It} {n : Nat} {G : Hp → Prop} {Y : Nat → Hp → V → Hp → Prop} (w : Walk J n G Y) {g : TG} {tt : TT} {tk tv : TE} {vs : List Nat} {σ : L2.St} {H1 : Hp} {D : Addr} {Qd : Hp → Prop} (Pv : Nat → Hp → Prop) (h0 : Pv 0 (upd H1 D (.dK []))) (hG : ∀ i H, i ≤ n → Pv i H → G H)
    (hs : ∀ i x H H', i < n → Pv i H → Y i H x H' → g x (wipe σ vs) H' fun σ2 H2 => wipe σ2 vs = wipe σ vs ∧ tt σ2 H2 fun b H3 =>
      if b = true then tk σ2 H3 fun y H4 => tv σ2 H4 fun z H5 => ∃ kvs k, y = kV k ∧ H5 D = some (.dK kvs) ∧ kvs.length < sizeLine ∧ Pv (i + 1) (upd H5 D (.dK (putK kvs k z))) else Pv (i + 1) H3) (hd : ∀ H, Pv n H → Qd H) :
    ∃ W : Nat → Nat → Hp → Prop, (∃ m, W 0 m (upd H1 D (.dK []))) ∧ ∀ i m H, W i m H →
      (J.stop i H ∧ Qd H) ∨ (J.go i H ∧ ∃ Nx : Hp → Prop, (∀ H', Nx H' → ∃ m', m' < m ∧ W (i + 1) m' H') ∧ ∀ x H', J.yld i H x H' → g x (wipe σ vs) H' fun σ2 H2 => wipe σ2 vs = wipe σ vs ∧ tt σ2 H2 fun b H3 =>
        if b = true then tk σ2 H3 fun y H4 => tv σ2 H4 fun z H5 => ∃ kvs k, y = kV k ∧ H5 D = some (.dK kvs) ∧ kvs.length < sizeLine ∧ Nx (upd H5 D (.dK (putK kvs k z))) else Nx H3) := by
  refine ⟨fun i m H => m = n - i ∧ i ≤ n ∧ Pv i H, ⟨n, by simp, Nat.zero_le _, h0⟩, ?_⟩
  rintro i m H ⟨rfl, hi, p⟩
  have q := hG i H hi p
  by_cases hlt : i < n
  · refine .inr ⟨w.goes i H hlt q, Pv (i + 1), fun H' p' => ⟨n - (i + 1), by omega, rfl, hlt, p'⟩, fun x H' y => ?_⟩
    exact hs i x H H' hlt p (w.yields i H x H' hlt q y)
  · have e : i = n := by omega
    subst e
    exact .inl ⟨w.stops H q, hd H p⟩
theorem FunD.ok0 {P : Program} {w : World} {K : PySem.W.Frag} {mg : Str → Option Value} {base : Heap} {x qual : Str} {params : Arguments} {body : List Stmt} {scope : Scope} {dvs : List V} {kws : List (Str × V)} {f : Addr} {fd : FuncData} {N ps : List Str} {k : Nat} {sp : Sp}
    (F : FunD K x qual params body scope dvs kws f fd) (S : FnScope N ps scope) (len : ∀ vs H Q E, sp vs H Q E → vs.length = ps.length)
    (hbody : ∀ (cdv : Value) (A : Around) (outer : List Env) (s : Shared) (H : Hp) (vs : List V) (Q : VK) (E : XK), Room k (A.deeper (PyProof.Rows.envOfC qual scope s.heap.objs.size f cdv)) → sp vs H Q E →
      ∃ t, PSs (cxOf CX0 P w K mg base N qual scope f cdv A outer s H E).nox body t ∧ t { nx := fun _ H' => Q .non H', rt := Q } (L2.start N vs) H) : FnOk P w K mg base CX0 (k + 1) f fd ps sp := by
  refine F.ok S len fun cdv A outer s H vs Q E hr h => ?_
  obtain ⟨t, h, q⟩ := hbody cdv A outer s H vs Q E hr h
  exact ⟨t, h.nox, q⟩
/-! ### a form as it stands -/
theorem kcc : ¬ (("_coefficients" : Str) = "_constant") := by decide +kernel
def ffl (d : Addr) (c : Int) : List (Str × V) := putF "_constant" (.int c) (putF "_coefficients" (.ref d) [])
theorem ffl_cf (d : Addr) (c : Int) : (ffl d c).lookup ("_coefficients" : Str) = some (.ref d) := by
  unfold ffl
  rw [lookup_putF, if_neg kcc, lookup_putF, if_pos rfl]
theorem ffl_ct (d : Addr) (c : Int) : (ffl d c).lookup ("_constant" : Str) = some (.int c) := by
  unfold ffl
  rw [lookup_putF, if_pos rfl]
theorem ffl_no (d : Addr) (c : Int) {m : Str} (h1 : ¬ m = "_constant") (h2 : ¬ m = "_coefficients") : (ffl d c).lookup m = none := by
  unfold ffl
  rw [lookup_putF, if_neg h1, lookup_putF, if_neg h2]
  rfl
/-- at p stands the form with the coefficients cs (names rising, none 0) and the constant c -/
structure FormAt (C : Addr) (H : Hp) (p : Addr) (cs : Cf) (c : Int) : Prop where
  ob : ∃ d dx, H p = some (.ins C dx (ffl d c)) ∧ H d = some (.dK (dk cs))
  can : Can cs
  len : cs.length < 64
  gd : ∀ e ∈ cs, good e.1 = true
theorem FormAt.same {C : Addr} {H H' : Hp} {p : Addr} {cs : Cf} {c : Int} (F : FormAt C H p cs c) (s : Same H H') : FormAt C H' p cs c := by
  obtain ⟨⟨d, dx, a, b⟩, k, l, g⟩ := F
  exact ⟨⟨d, dx, s _ _ a, s _ _ b⟩, k, l, g⟩
theorem FormAt.kb {C : Addr} {H H' : Hp} {p st cl : Addr} {cs : Cf} {c : Int} {m : Nat} (F : FormAt C H p cs c) (S : StAt H st cl m) (s : Kb st cl H H') : FormAt C H' p cs c := by
  obtain ⟨⟨d, dx, a, b⟩, k, l, g⟩ := F
  obtain ⟨⟨q, c', e1, _⟩, ⟨ns, e2, _⟩, _⟩ := S
  exact ⟨⟨d, dx, s _ _ a (ne_of a e1 (by intro z; cases z)) (ne_of a e2 (by intro z; cases z)), s _ _ b (ne_of b e1 (by intro z; cases z)) (ne_of b e2 (by intro z; cases z))⟩, k, l, g⟩
theorem good_len {z : Str} (h : good z = true) : z.length ≤ 6 ∧ 1 ≤ z.length := by
  unfold good at h
  have := Str.len_list z
  by_cases h1 : z = "mod"
  · rw [if_pos h1] at h; cases h
  · rw [if_neg h1] at h
    by_cases h2 : z.cps.toList.length < 1 ∨ 6 < z.cps.toList.length
    · rw [if_pos h2] at h; cases h
    · omega
structure FTx (K : PySem.W.Frag) (mg : Str → Option Value) (C : Addr) : Prop where
  cl : Cls K C
  nF : NoAttr K C "_coefficients"
  nT : NoAttr K C "_constant"
  srt : mg "sorted" = none
/-- Form.__init__(self, coefficients, constant), all keys names -/
def spInit (C : Addr) : Sp := fun vs H Q _ => ∃ (p dx d : Addr) (kvs : Cf) (c : Int), vs = [.ref p, .ref d, .int c] ∧ H p = some (.ins C dx []) ∧ H d = some (.dK (dk kvs)) ∧ (kvs.map (·.1)).Nodup ∧ kvs.length < 64 ∧ (∀ e ∈ kvs, good e.1 = true) ∧
  ∀ (cs : Cf) (H' : Hp), (∀ k, look cs k = look kvs k) → FormAt C H' p cs c → (∃ d' dx', H' p = some (.ins C dx' (ffl d' c)) ∧ H' d' = some (.dK (dk cs)) ∧ H d' = none) → (∀ b o, H b = some o → b ≠ p → H' b = some o) → Q .non H'
section
variable {P : Program} {w : World} {K : PySem.W.Frag} {mg : Str → Option Value} {base : Heap}
abbrev nInit : List Str := ["self", "coefficients", "constant", "name", "names"]
theorem scInit : FnScope nInit ["self", "coefficients", "constant"] (defScope sForm_init) := ⟨rfl, rfl, rfl, by decide +kernel, rfl, by decide +kernel, by decide +kernel⟩
theorem ok_init {f fV C : Addr} {fd dV : FuncData} {dvs : List V} (F : FunD K "__init__" "Form.__init__" (defArgs sForm_init) (defBody sForm_init) (defScope sForm_init) dvs [] f fd) (T : FTx K mg C)
    (EV : FnOk P w K mg base CX0 1 fV dV ["text"] spValid) (GV : Df K mg "valid_name" fV) (bV : Binds K dV ["text"] []) : FnOk P w K mg base CX0 2 f fd ["self", "coefficients", "constant"] (spInit C) := by
  refine FunD.ok0 F scInit (fun vs H Q E h => ?_) (fun cdv A outer s H vs Q E hr h => ?_)
  · obtain ⟨p, dx, d, kvs, c, rfl, _⟩ := h
    rfl
  · obtain ⟨p, dx, d, kvs, c, rfl, hp, hd, nd, hlen, hgd, k⟩ := h
    have hu := hu_of hr
    refine ⟨_, pss_cons (ps_lock (ps_for PassesOwn.never rfl (pi_keys (pv 1)) (pg_name (i := 3) scInit.nd rfl (Or.inl rfl)) (pss_one (ps_if (pt_not (pt_val (pe_call EV hr rfl GV.mg GV.kp bV .nil pass0 (pa_cons (pv 3) pa_nil)))) pss_never pss_nil))))
      (pss_cons (ps_set (i := 4) scInit.nd rfl (Or.inl rfl) (pe_callB (call_sortedD rfl) (by rfl) T.srt (by decide +kernel) (pa_cons (pv 1) pa_nil)))
      (pss_cons (ps_fld (pv 0) (pe_dc (own := [("name", 3)]) (g := gName 3) rfl scInit.nd (pi_list (pv 4)) (blkOk_by (own := [("name", 3)]) (N := nInit) (sc := defScope sForm_init) (by decide +kernel))
          (fun _ _ _ _ _ => pg_name (i := 3) scInit.nd rfl (Or.inl rfl)) (fun _ _ _ _ _ => pts_one (pt_cmpR op_ne (pe_dget hu (pv 1) (pv 3) (fun _ _ => rfl)) pe_int (nomark _))) (fun _ _ _ _ _ => pv 3) (fun _ _ _ _ _ => pe_dget hu (pv 1) (pv 3) (fun _ _ => rfl))) rfl)
      (pss_one (ps_fld (pv 0) (pv 2) rfl)))), ?_⟩
    have npd : p ≠ d := ne_of hp hd (by intro z; cases z)
    refine ⟨d, _, hd, trivial, fun od => ?_⟩
    refine ⟨_, rfl, d, od, rfl, .inl ⟨_, upd_same, ?_⟩⟩
    refine for_it walk_keys (fun i σ H' => (∃ v, σ = [some (.ref p), some (.ref d), some (.int c), v, none]) ∧ Same (upd H d (.frz od (.dK (dk kvs)))) H') ⟨⟨none, rfl⟩, Same.refl _⟩ (fun i σ H' _ h => h.2 _ _ upd_same) ?_ ?_
    · rintro i x σ H1 H2 hi ⟨⟨v, rfl⟩, s1⟩ ⟨rfl, k', v', hkv, rfl⟩
      rw [dk_len] at hi
      have he : (dk kvs)[i]? = some (Sum.inr (kvs[i]).1, V.int (kvs[i]).2) := by
        unfold dk
        rw [List.getElem?_map, List.getElem?_eq_getElem hi]
        rfl
      rw [he] at hkv
      cases hkv
      have hg : good (kvs[i]).1 = true := hgd _ (List.getElem_mem hi)
      refine ⟨_, rfl, _, rfl, by have := (good_len hg).1; omega, fun H3 s3 => ?_⟩
      refine ⟨_, rfl, ?_⟩
      rw [hg]
      refine iteF ?_
      exact ⟨⟨_, rfl⟩, s1.trans s3⟩
    · rintro σ H1 ⟨⟨v, rfl⟩, s1⟩
      refine ⟨s1 _ _ upd_same, ?_⟩
      obtain ⟨H2, hH2⟩ : ∃ H2, H2 = upd H1 d (.dK (dk kvs)) := ⟨_, rfl⟩
      have s2 : Same H H2 := by
        intro b o e
        rw [hH2]
        by_cases hb : b = d
        · subst hb
          rw [upd_same, ← hd, e]
        · rw [upd_ne hb]
          exact s1 b o (by rw [upd_ne hb]; exact e)
      rw [← hH2]
      have hd2 := s2 _ _ hd
      refine ⟨_, rfl, d, dk kvs, kvs.map (·.1), rfl, Rd.of hd2, ?_, by rw [List.length_map]; exact hlen, fun ys l perm srt hl => ?_⟩
      · unfold dk
        rw [List.map_map, List.map_map]
        rfl
      have ynd : ys.Nodup := perm.nodup_iff.mpr nd
      have yasc : Asc ys := sorted_asc srt ynd
      have ylen : ys.length < 64 := by rw [perm.length_eq, List.length_map]; exact hlen
      have nld : l ≠ d := (ne_of_none hd2 hl).symm
      have npl : p ≠ l := ne_of_none (s2 _ _ hp) hl
      refine ⟨_, rfl, l, rfl, ⟨_, SqL.of upd_same⟩, fun D hD => ?_⟩
      obtain ⟨H3, hH3⟩ : ∃ H3, H3 = upd H2 l (.lst (ys.map V.str)) := ⟨_, rfl⟩
      rw [← hH3] at hD
      have s3 : Same H H3 := by
        intro b o e
        rw [hH3, upd_ne (ne_of_none (s2 b o e) hl)]
        exact s2 b o e
      have hl3 : H3 l = some (.lst (ys.map V.str)) := by rw [hH3]; exact upd_same
      rw [← hH3]
      have hlook : ∀ y ∈ ys, lookO kvs y = some (look kvs y) := by
        intro y hy
        have : y ∈ kvs.map (·.1) := perm.mem_iff.mp hy
        cases q : lookO kvs y with
        | none => exact absurd this (lookO_none.mp q)
        | some z => unfold look; rw [q]; rfl
      refine dc_it (walk_list (K := K) (a := l) (xs := ys.map V.str)) (fun i H' => Same H3 H' ∧ H' D = some (.dK (dk (pick (look kvs) (ys.take i))))) ⟨?_, ?_⟩ (fun i H' _ h => SqL.of (h.1 _ _ hl3)) ?_ ?_
      · intro b o e
        rw [upd_ne (ne_of_none e hD)]
        exact e
      · rw [upd_same]
        rfl
      · rintro i x H4 H5 hi ⟨s4, s5⟩ ⟨rfl, hx⟩
        rw [List.length_map] at hi
        have hyi : ys[i]? = some ys[i] := List.getElem?_eq_getElem hi
        rw [List.getElem?_map, hyi] at hx
        obtain rfl : V.str ys[i] = x := Option.some.inj hx
        have hmem : ys[i] ∈ ys := List.getElem_mem hi
        have hnew : ys[i] ∉ (pick (look kvs) (ys.take i)).map (·.1) := by
          rw [pick_names]
          intro m
          have m1 := (List.mem_filter.mp m).1
          have tk : ys.take (i + 1) = ys.take i ++ [ys[i]] := by rw [List.take_succ, hyi]; rfl
          have nd2 : (ys.take (i + 1)).Nodup := List.Sublist.nodup (List.take_sublist _ _) ynd
          rw [tk] at nd2
          exact (List.nodup_append.mp nd2).2.2 _ m1 _ (List.mem_singleton.mpr rfl) rfl
        have hd5 : H5 d = some (.dK (dk kvs)) := s4 _ _ (s3 _ _ hd)
        have hv : valV (dk kvs) (Sum.inr ys[i] : Key) = some (V.int (look kvs ys[i])) := by rw [valV_dk, hlook _ hmem]; rfl
        have hget : DGet H5 d (V.str ys[i]) (some (V.int (look kvs ys[i]))) := by rw [← hv]; exact DGet.k (k := Sum.inr ys[i]) hd5
        have htk : ys.take (i + 1) = ys.take i ++ [ys[i]] := by rw [List.take_succ, hyi]; rfl
        refine ⟨rfl, ?_⟩
        refine ⟨_, rfl, _, rfl, d, _, rfl, hget, rfl, _, rfl, ?_⟩
        by_cases hz : look kvs ys[i] = 0
        · rw [show (!decide (V.int (look kvs ys[i]) = V.int 0)) = false by rw [hz]; simp]
          refine iteF ?_
          refine ⟨s4, ?_⟩
          rw [htk, pick_snoc, if_neg (fun z => z hz)]
          exact s5
        · rw [show (!decide (V.int (look kvs ys[i]) = V.int 0)) = true by rw [decide_eq_false (fun z => hz (V.int.inj z))]; rfl]
          refine iteT ?_
          refine ⟨_, rfl, _, rfl, _, rfl, d, _, rfl, hget, _, Sum.inr ys[i], rfl, s5, ?_, ?_, ?_⟩
          · rw [dk_len]
            have h1 : (pick (look kvs) (ys.take i)).length ≤ ys.length := by
              unfold pick
              rw [List.length_map]
              exact Nat.le_trans (List.length_filter_le _ _) (by rw [List.length_take]; exact Nat.min_le_right _ _)
            exact small1000 (by omega)
          · intro b o e
            rw [upd_ne (ne_of_none e hD)]
            exact s4 b o e
          · rw [upd_same, dk_put_new hnew, htk, pick_snoc, if_pos hz]
      · rintro H4 ⟨s4, s5⟩
        rw [List.length_map, List.take_length] at s5
        have hp4 : H4 p = some (.ins C dx []) := s4 _ _ (s3 _ _ hp)
        have npD : p ≠ D := ne_of_none (s3 _ _ hp) hD
        refine ⟨_, rfl, p, C, dx, _, rfl, hp4, T.cl, T.nF, (by show 0 < 1000; decide), ?_⟩
        refine ⟨_, rfl, _, rfl, p, C, dx, _, rfl, upd_same, T.cl, T.nT, (by show 1 < 1000; decide), ?_⟩
        have hpk : ∀ q, look (pick (look kvs) ys) q = look kvs q := pick_look yasc fun q hq => perm.mem_iff.mpr (by
          cases Classical.em (q ∈ kvs.map (·.1)) with
          | inl z => exact z
          | inr z => exact absurd (look_none z) hq)
        have hDf : (L2.upd (L2.upd H4 p (.ins C dx (putF "_coefficients" (.ref D) []))) p (.ins C dx (ffl D c))) D = some (.dK (dk (pick (look kvs) ys))) := by
          rw [upd_ne npD.symm, upd_ne npD.symm]
          exact s5
        refine k (pick (look kvs) ys) _ hpk ⟨⟨D, dx, upd_same, ?_⟩, pick_can yasc, ?_, ?_⟩ ⟨D, dx, upd_same, hDf, s3.free hD⟩ ?_
        · rw [upd_ne npD.symm, upd_ne npD.symm]
          exact s5
        · have h1 : (pick (look kvs) ys).length ≤ ys.length := by
            unfold pick
            rw [List.length_map]
            exact List.length_filter_le _ _
          omega
        · intro e he
          have hm : e.1 ∈ ys := by
            have : e.1 ∈ (pick (look kvs) ys).map (·.1) := List.mem_map.mpr ⟨e, he, rfl⟩
            rw [pick_names] at this
            exact (List.mem_filter.mp this).1
          obtain ⟨e', he', q⟩ := List.mem_map.mp (perm.mem_iff.mp hm)
          rw [← q]
          exact hgd e' he'
        · intro b o e hb
          rw [upd_ne hb, upd_ne hb]
          exact s4 _ _ (s3 _ _ e)
end
end OS
namespace OS
open PySem L2
/-! ### an own error with one field -/
/-- what the head knows of the class of an error at C, its __init__ at fI -/
structure ErrC (K : PySem.W.Frag) (mg : Str → Option Value) (x : Str) (C fI : Addr) (fld : Str) : Prop where
  mg : mg x = some (.ref C)
  ox : OexC K C
  iC : PySem.W.findIn K (.ref C) "__init__" = some (some (.ref fI))
  tI : PySem.W.typeIn K (.ref fI) = some (.type "function")
  no : PySem.W.findIn K (.ref C) fld = some none
  xf : XfC K C
  te : PySem.W.exmOne K (.ref C) (.ref C) = some true
/-- its __init__(self, y) -/
def spE (K : PySem.W.Frag) (C : Addr) (fld : Str) : Sp := fun vs H Q _ => ∃ (a : Addr) (y : V), vs = [.ref a, y] ∧ H a = some (exo a C none) ∧
  ∀ dx, H dx = none → dx ≠ a → Q .non (L2.upd (L2.upd H dx (exd dx [(fld, y)])) a (exo a C (some dx)))
/-- a made error's end: the heap has got its dict and nothing else -/
theorem made_heap {H : Hp} {a d : Addr} {fs : List (Str × V)} {o1 o2 : HO} (na : H a = none) (hd : d ≠ a) : ∀ b, (L2.upd (L2.del (L2.upd (L2.upd (L2.upd H a o1) d (exd d fs)) a o2) a) d (.xd fs)) b = (L2.upd H d (.xd fs)) b := by
  intro b
  by_cases h1 : b = d
  · rw [h1, upd_same, upd_same]
  · rw [upd_ne h1, upd_ne h1]
    by_cases h2 : b = a
    · rw [h2, del_same, na]
    · rw [del_ne h2, upd_ne h2, upd_ne h1, upd_ne h2]
end OS
namespace OS
open PySem L2
/-- the first key that is no name -/
def bads (kvs : Cf) : Option Str := (kvs.map (·.1)).find? fun n => !good n
theorem bads_snoc {cs : Cf} {e : Str × Int} : bads (cs ++ [e]) = (bads cs).or (if good e.1 = true then none else some e.1) := by
  unfold bads
  rw [List.map_append, List.find?_append]
  congr 1
  show List.find? _ [e.1] = _
  rw [List.find?_cons]
  by_cases h : good e.1 = true
  · rw [if_pos h]; simp [h]
  · rw [if_neg h]; simp [h]
theorem bads_mono : ∀ {cs : Cf} {n : Str} (i : Nat), bads (cs.take i) = some n → bads cs = some n := by
  intro cs n i h
  have : bads (cs.take i ++ cs.drop i) = some n := by
    unfold bads at h ⊢
    rw [List.map_append, List.find?_append, h]
    rfl
  rwa [List.take_append_drop] at this
theorem bads_none {cs : Cf} (h : bads cs = none) : ∀ e ∈ cs, good e.1 = true := by
  intro e he
  unfold bads at h
  have := List.find?_eq_none.mp h e.1 (List.mem_map.mpr ⟨e, he, rfl⟩)
  simpa using this
theorem bads_of {cs : Cf} (h : ∀ e ∈ cs, good e.1 = true) : bads cs = none := by
  unfold bads
  refine List.find?_eq_none.mpr fun x hx => ?_
  obtain ⟨e, he, rfl⟩ := List.mem_map.mp hx
  simp [h e he]
/-- Form.__init__(self, coefficients, constant) -/
def spInitX (C CB : Addr) : Sp := fun vs H Q E => ∃ (p dx d : Addr) (kvs : Cf) (c : Int), vs = [.ref p, .ref d, .int c] ∧ H p = some (.ins C dx []) ∧ H d = some (.dK (dk kvs)) ∧ (kvs.map (·.1)).Nodup ∧ kvs.length < 64 ∧ (∀ e ∈ kvs, e.1.length ≤ 1000) ∧
  ((∀ e ∈ kvs, good e.1 = true) → ∀ (cs : Cf) (H' : Hp), (∀ k, look cs k = look kvs k) → FormAt C H' p cs c → (∃ d' dx', H' p = some (.ins C dx' (ffl d' c)) ∧ H' d' = some (.dK (dk cs)) ∧ H d' = none) → (∀ b o, H b = some o → b ≠ p → H' b = some o) → Q .non H') ∧
  (∀ n, bads kvs = some n → ∀ (dd : Addr) (H' : Hp), H dd = none → H' dd = some (.xd [("name", .str n)]) → (∀ b o, H b = some o → b ≠ p → b ≠ d → H' b = some o) → E (.ref CB) (some dd) H')
section
variable {P : Program} {w : World} {K : PySem.W.Frag} {mg : Str → Option Value} {base : Heap}
theorem scBN : FnScope ["self", "name"] ["self", "name"] (defScope sBadName_init) := ⟨rfl, rfl, rfl, by decide +kernel, rfl, by decide +kernel, by decide +kernel⟩
theorem ok_bn {f fI C : Addr} {fd : FuncData} (F : Fun K "__init__" "BadName.__init__" sBadName_init f fd) (T : ErrC K mg "BadName" C fI "name") : FnOk P w K mg base CX0 1 f fd ["self", "name"] (spE K C "name") := by
  refine F.ok scBN (fun vs H Q E h => ?_) (fun cdv A outer s H vs Q E hr h => ?_)
  · obtain ⟨a, y, rfl, _⟩ := h
    rfl
  · obtain ⟨a, y, rfl, ha, k⟩ := h
    refine ⟨_, pss_one (ps_ost (pv 0) (pv 1)), ?_⟩
    exact ⟨_, rfl, _, rfl, a, C, rfl, T.ox, T.no, .inl ⟨ha, fun dx n ne => k dx n ne⟩⟩
theorem ok_initX {f fV C CB fB : Addr} {fd dV dB : FuncData} {dvs : List V} (F : FunD K "__init__" "Form.__init__" (defArgs sForm_init) (defBody sForm_init) (defScope sForm_init) dvs [] f fd) (T : FTx K mg C) (U : ErrC K mg "BadName" CB fB "name")
    (EB : FnOk P w K mg base CX0 1 fB dB ["self", "name"] (spE K CB "name")) (bB : Binds K dB ["self", "name"] [])
    (EV : FnOk P w K mg base CX0 1 fV dV ["text"] spValid) (GV : Df K mg "valid_name" fV) (bV : Binds K dV ["text"] []) : FnOk P w K mg base (L2.CX P w) 3 f fd ["self", "coefficients", "constant"] (spInitX C CB) := by
  refine FunD.ok F scInit (fun vs H Q E h => ?_) (fun cdv A outer s H vs Q E hr h => ?_)
  · obtain ⟨p, dx, d, kvs, c, rfl, _⟩ := h
    rfl
  · obtain ⟨p, dx, d, kvs, c, rfl, hp, hd, nd, hlen, hsz, k1, k2⟩ := h
    have hu := hu_of hr
    have hr1 : Room 1 _ := hr.mono (by decide)
    refine ⟨_, pss_cons (ps_lock (ps_for (passes_of rfl) rfl (pi_keys (pv 1)) (pg_name (i := 3) scInit.nd rfl (Or.inl rfl)) (pss_one (ps_if (pt_not (pt_val (pe_call EV hr1 rfl GV.mg GV.kp bV .nil pass0 (pa_cons (pv 3) pa_nil)))) (pss_one (ps_raise rfl (takes_of rfl rfl rfl rfl) (pmk_oex U.ox U.iC U.tI EB hr bB .nil pass0 rfl U.mg (pa_cons (pv 3) pa_nil)))) pss_nil))))
      (pss_cons (ps_set (i := 4) scInit.nd rfl (Or.inl rfl) (pe_callB (call_sortedD rfl) (by rfl) T.srt (by decide +kernel) (pa_cons (pv 1) pa_nil)))
      (pss_cons (ps_fld (pv 0) (pe_dc (own := [("name", 3)]) (g := gName 3) rfl scInit.nd (pi_list (pv 4)) (blkOk_by (own := [("name", 3)]) (N := nInit) (sc := defScope sForm_init) (by decide +kernel))
          (fun _ _ _ _ _ => pg_name (i := 3) scInit.nd rfl (Or.inl rfl)) (fun _ _ _ _ _ => pts_one (pt_cmpR op_ne (pe_dget hu (pv 1) (pv 3) (fun _ _ => rfl)) pe_int (nomark _))) (fun _ _ _ _ _ => pv 3) (fun _ _ _ _ _ => pe_dget hu (pv 1) (pv 3) (fun _ _ => rfl))) rfl)
      (pss_one (ps_fld (pv 0) (pv 2) rfl)))), ?_⟩
    have npd : p ≠ d := ne_of hp hd (by intro z; cases z)
    refine ⟨d, _, hd, trivial, fun od => ?_⟩
    refine ⟨_, rfl, d, od, rfl, .inl ⟨_, upd_same, ?_⟩⟩
    refine for_it walk_keys (fun i σ H' => (∃ v, σ = [some (.ref p), some (.ref d), some (.int c), v, none]) ∧ bads (kvs.take i) = none ∧ Same (upd H d (.frz od (.dK (dk kvs)))) H') ⟨⟨none, rfl⟩, rfl, Same.refl _⟩ (fun i σ H' _ h => h.2.2 _ _ upd_same) ?_ ?_
    · rintro i x σ H1 H2 hi ⟨⟨v, rfl⟩, hb0, s1⟩ ⟨rfl, k', v', hkv, rfl⟩
      rw [dk_len] at hi
      have he : (dk kvs)[i]? = some (Sum.inr (kvs[i]).1, V.int (kvs[i]).2) := by
        unfold dk
        rw [List.getElem?_map, List.getElem?_eq_getElem hi]
        rfl
      rw [he] at hkv
      cases hkv
      have htk : kvs.take (i + 1) = kvs.take i ++ [kvs[i]] := by rw [List.take_succ, List.getElem?_eq_getElem hi]; rfl
      refine ⟨_, rfl, _, rfl, hsz _ (List.getElem_mem hi), fun H3 s3 => ?_⟩
      refine ⟨_, rfl, ?_⟩
      have sT := s1.trans s3
      cases hg : good (kvs[i]).1 with
      | true =>
        refine iteF ?_
        refine ⟨⟨_, rfl⟩, ?_, sT⟩
        rw [htk, bads_snoc, hb0, hg]
        rfl
      | false =>
        refine iteT ?_
        have hbd : bads kvs = some (kvs[i]).1 := by
          refine bads_mono (i + 1) ?_
          rw [htk, bads_snoc, hb0, hg]
          rfl
        refine ⟨_, rfl, (by show 1 ≤ 1000; decide), fun a na => ?_⟩
        refine ⟨a, _, rfl, upd_same, fun dd nd2 ne => ⟨rfl, dd, [("name", kV (Sum.inr (kvs[i]).1 : Key))], upd_same, ?_, ?_, ?_⟩⟩
        · rw [upd_ne ne, upd_same]
        · rw [upd_ne ne] at nd2
          exact nd2
        · rw [upd_ne ne] at nd2
          have hddn : (upd H d (.frz od (.dK (dk kvs)))) dd = none := sT.free nd2
          have ndd : dd ≠ d := by
            intro e
            rw [e, upd_same] at hddn
            cases hddn
          rw [upd_ne ndd] at hddn
          refine k2 _ hbd dd _ hddn upd_same fun b o e n1 n2 => ?_
          rw [made_heap na ne]
          have e2 := sT b o (by rw [upd_ne n2]; exact e)
          rw [upd_ne (ne_of_none e2 nd2)]
          exact e2
    · rintro σ H1 ⟨⟨v, rfl⟩, hb0, s1⟩
      rw [dk_len, List.take_length] at hb0
      have hgd : ∀ e ∈ kvs, good e.1 = true := bads_none hb0
      have k := k1 hgd
      refine ⟨s1 _ _ upd_same, ?_⟩
      obtain ⟨H2, hH2⟩ : ∃ H2, H2 = upd H1 d (.dK (dk kvs)) := ⟨_, rfl⟩
      have s2 : Same H H2 := by
        intro b o e
        rw [hH2]
        by_cases hb : b = d
        · subst hb
          rw [upd_same, ← hd, e]
        · rw [upd_ne hb]
          exact s1 b o (by rw [upd_ne hb]; exact e)
      rw [← hH2]
      have hd2 := s2 _ _ hd
      refine ⟨_, rfl, d, dk kvs, kvs.map (·.1), rfl, Rd.of hd2, ?_, by rw [List.length_map]; exact hlen, fun ys l perm srt hl => ?_⟩
      · unfold dk
        rw [List.map_map, List.map_map]
        rfl
      have ynd : ys.Nodup := perm.nodup_iff.mpr nd
      have yasc : Asc ys := sorted_asc srt ynd
      have ylen : ys.length < 64 := by rw [perm.length_eq, List.length_map]; exact hlen
      have nld : l ≠ d := (ne_of_none hd2 hl).symm
      have npl : p ≠ l := ne_of_none (s2 _ _ hp) hl
      refine ⟨_, rfl, l, rfl, ⟨_, SqL.of upd_same⟩, fun D hD => ?_⟩
      obtain ⟨H3, hH3⟩ : ∃ H3, H3 = upd H2 l (.lst (ys.map V.str)) := ⟨_, rfl⟩
      rw [← hH3] at hD
      have s3 : Same H H3 := by
        intro b o e
        rw [hH3, upd_ne (ne_of_none (s2 b o e) hl)]
        exact s2 b o e
      have hl3 : H3 l = some (.lst (ys.map V.str)) := by rw [hH3]; exact upd_same
      rw [← hH3]
      have hlook : ∀ y ∈ ys, lookO kvs y = some (look kvs y) := by
        intro y hy
        have : y ∈ kvs.map (·.1) := perm.mem_iff.mp hy
        cases q : lookO kvs y with
        | none => exact absurd this (lookO_none.mp q)
        | some z => unfold look; rw [q]; rfl
      refine dc_it (walk_list (K := K) (a := l) (xs := ys.map V.str)) (fun i H' => Same H3 H' ∧ H' D = some (.dK (dk (pick (look kvs) (ys.take i))))) ⟨?_, ?_⟩ (fun i H' _ h => SqL.of (h.1 _ _ hl3)) ?_ ?_
      · intro b o e
        rw [upd_ne (ne_of_none e hD)]
        exact e
      · rw [upd_same]
        rfl
      · rintro i x H4 H5 hi ⟨s4, s5⟩ ⟨rfl, hx⟩
        rw [List.length_map] at hi
        have hyi : ys[i]? = some ys[i] := List.getElem?_eq_getElem hi
        rw [List.getElem?_map, hyi] at hx
        obtain rfl : V.str ys[i] = x := Option.some.inj hx
        have hmem : ys[i] ∈ ys := List.getElem_mem hi
        have hnew : ys[i] ∉ (pick (look kvs) (ys.take i)).map (·.1) := by
          rw [pick_names]
          intro m
          have m1 := (List.mem_filter.mp m).1
          have tk : ys.take (i + 1) = ys.take i ++ [ys[i]] := by rw [List.take_succ, hyi]; rfl
          have nd2 : (ys.take (i + 1)).Nodup := List.Sublist.nodup (List.take_sublist _ _) ynd
          rw [tk] at nd2
          exact (List.nodup_append.mp nd2).2.2 _ m1 _ (List.mem_singleton.mpr rfl) rfl
        have hd5 : H5 d = some (.dK (dk kvs)) := s4 _ _ (s3 _ _ hd)
        have hv : valV (dk kvs) (Sum.inr ys[i] : Key) = some (V.int (look kvs ys[i])) := by rw [valV_dk, hlook _ hmem]; rfl
        have hget : DGet H5 d (V.str ys[i]) (some (V.int (look kvs ys[i]))) := by rw [← hv]; exact DGet.k (k := Sum.inr ys[i]) hd5
        have htk : ys.take (i + 1) = ys.take i ++ [ys[i]] := by rw [List.take_succ, hyi]; rfl
        refine ⟨rfl, ?_⟩
        refine ⟨_, rfl, _, rfl, d, _, rfl, hget, rfl, _, rfl, ?_⟩
        by_cases hz : look kvs ys[i] = 0
        · rw [show (!decide (V.int (look kvs ys[i]) = V.int 0)) = false by rw [hz]; simp]
          refine iteF ?_
          refine ⟨s4, ?_⟩
          rw [htk, pick_snoc, if_neg (fun z => z hz)]
          exact s5
        · rw [show (!decide (V.int (look kvs ys[i]) = V.int 0)) = true by rw [decide_eq_false (fun z => hz (V.int.inj z))]; rfl]
          refine iteT ?_
          refine ⟨_, rfl, _, rfl, _, rfl, d, _, rfl, hget, _, Sum.inr ys[i], rfl, s5, ?_, ?_, ?_⟩
          · rw [dk_len]
            have h1 : (pick (look kvs) (ys.take i)).length ≤ ys.length := by
              unfold pick
              rw [List.length_map]
              exact Nat.le_trans (List.length_filter_le _ _) (by rw [List.length_take]; exact Nat.min_le_right _ _)
            exact small1000 (by omega)
          · intro b o e
            rw [upd_ne (ne_of_none e hD)]
            exact s4 b o e
          · rw [upd_same, dk_put_new hnew, htk, pick_snoc, if_pos hz]
      · rintro H4 ⟨s4, s5⟩
        rw [List.length_map, List.take_length] at s5
        have hp4 : H4 p = some (.ins C dx []) := s4 _ _ (s3 _ _ hp)
        have npD : p ≠ D := ne_of_none (s3 _ _ hp) hD
        refine ⟨_, rfl, p, C, dx, _, rfl, hp4, T.cl, T.nF, (by show 0 < 1000; decide), ?_⟩
        refine ⟨_, rfl, _, rfl, p, C, dx, _, rfl, upd_same, T.cl, T.nT, (by show 1 < 1000; decide), ?_⟩
        have hpk : ∀ q, look (pick (look kvs) ys) q = look kvs q := pick_look yasc fun q hq => perm.mem_iff.mpr (by
          cases Classical.em (q ∈ kvs.map (·.1)) with
          | inl z => exact z
          | inr z => exact absurd (look_none z) hq)
        have hDf : (L2.upd (L2.upd H4 p (.ins C dx (putF "_coefficients" (.ref D) []))) p (.ins C dx (ffl D c))) D = some (.dK (dk (pick (look kvs) ys))) := by
          rw [upd_ne npD.symm, upd_ne npD.symm]
          exact s5
        refine k (pick (look kvs) ys) _ hpk ⟨⟨D, dx, upd_same, ?_⟩, pick_can yasc, ?_, ?_⟩ ⟨D, dx, upd_same, hDf, s3.free hD⟩ ?_
        · rw [upd_ne npD.symm, upd_ne npD.symm]
          exact s5
        · have h1 : (pick (look kvs) ys).length ≤ ys.length := by
            unfold pick
            rw [List.length_map]
            exact List.length_filter_le _ _
          omega
        · intro e he
          have hm : e.1 ∈ ys := by
            have : e.1 ∈ (pick (look kvs) ys).map (·.1) := List.mem_map.mpr ⟨e, he, rfl⟩
            rw [pick_names] at this
            exact (List.mem_filter.mp this).1
          obtain ⟨e', he', q⟩ := List.mem_map.mp (perm.mem_iff.mp hm)
          rw [← q]
          exact hgd e' he'
        · intro b o e hb
          rw [upd_ne hb, upd_ne hb]
          exact s4 _ _ (s3 _ _ e)
end
end OS
namespace OS
open PySem L2
def spCf (C : Addr) : Sp := fun vs H Q _ => ∃ (p : Addr) (cs : Cf) (c : Int), vs = [.ref p] ∧ FormAt C H p cs c ∧ ∀ d, H d = none → Q (.ref d) (L2.upd H d (.dK (dk cs)))
def spCt (C : Addr) : Sp := fun vs H Q _ => ∃ (p : Addr) (cs : Cf) (c : Int), vs = [.ref p] ∧ FormAt C H p cs c ∧ Q (.int c) H
def spGi (C : Addr) : Sp := fun vs H Q _ => ∃ (p : Addr) (cs : Cf) (c : Int) (x : Str), vs = [.ref p, .str x] ∧ FormAt C H p cs c ∧ Q (.int (look cs x)) H
def spCn (C : Addr) : Sp := fun vs H Q _ => ∃ (p : Addr) (cs : Cf) (c : Int) (x : Str), vs = [.ref p, .str x] ∧ FormAt C H p cs c ∧ Q (.bl (lookO cs x).isSome) H
def spLn (C : Addr) : Sp := fun vs H Q _ => ∃ (p : Addr) (cs : Cf) (c : Int), vs = [.ref p] ∧ FormAt C H p cs c ∧ Q (.int cs.length) H
section
variable {P : Program} {w : World} {K : PySem.W.Frag} {mg : Str → Option Value} {base : Heap} {f C : Addr} {fd : FuncData}
theorem scCf : FnScope ["self"] ["self"] (defScope sForm_coefficients) := ⟨rfl, rfl, rfl, by decide +kernel, rfl, by decide +kernel, by decide +kernel⟩
theorem scCt : FnScope ["self"] ["self"] (defScope sForm_constant) := ⟨rfl, rfl, rfl, by decide +kernel, rfl, by decide +kernel, by decide +kernel⟩
theorem scGi : FnScope ["self", "name"] ["self", "name"] (defScope sForm_getitem) := ⟨rfl, rfl, rfl, by decide +kernel, rfl, by decide +kernel, by decide +kernel⟩
theorem scCn : FnScope ["self", "name"] ["self", "name"] (defScope sForm_contains) := ⟨rfl, rfl, rfl, by decide +kernel, rfl, by decide +kernel, by decide +kernel⟩
theorem scLn : FnScope ["self"] ["self"] (defScope sForm_len) := ⟨rfl, rfl, rfl, by decide +kernel, rfl, by decide +kernel, by decide +kernel⟩
theorem ok_cf (F : Fun K "coefficients" "Form.coefficients" sForm_coefficients f fd) (T : FTx K mg C) (mD : mg "dict" = none) : FnOk P w K mg base CX0 1 f fd ["self"] (spCf C) := by
  refine F.ok scCf (fun vs H Q E h => ?_) (fun cdv A outer s H vs Q E hr h => ?_)
  · obtain ⟨p, cs, c, rfl, _⟩ := h
    rfl
  · obtain ⟨p, cs, c, rfl, ⟨⟨d, dx, hp, hd⟩, _, _, _⟩, k⟩ := h
    refine ⟨_, pss_one (ps_ret (pe_callTy call_dictD (by rfl) mD (by decide +kernel) (pa_cons (pe_fld (pv 0) rfl) pa_nil))), ?_⟩
    exact ⟨_, rfl, p, C, dx, _, _, rfl, hp, T.cl, T.nF, ffl_cf d c, d, dk cs, rfl, Rd.of hd, fun kd nkd => k kd nkd⟩
theorem ok_ct (F : Fun K "constant" "Form.constant" sForm_constant f fd) (T : FTx K mg C) : FnOk P w K mg base CX0 1 f fd ["self"] (spCt C) := by
  refine F.ok scCt (fun vs H Q E h => ?_) (fun cdv A outer s H vs Q E hr h => ?_)
  · obtain ⟨p, cs, c, rfl, _⟩ := h
    rfl
  · obtain ⟨p, cs, c, rfl, ⟨⟨d, dx, hp, hd⟩, _, _, _⟩, k⟩ := h
    refine ⟨_, pss_one (ps_ret (pe_fld (pv 0) rfl)), ?_⟩
    exact ⟨_, rfl, p, C, dx, _, _, rfl, hp, T.cl, T.nT, ffl_ct d c, k⟩
theorem ok_gi (F : Fun K "__getitem__" "Form.__getitem__" sForm_getitem f fd) (T : FTx K mg C) : FnOk P w K mg base CX0 1 f fd ["self", "name"] (spGi C) := by
  refine F.ok scGi (fun vs H Q E h => ?_) (fun cdv A outer s H vs Q E hr h => ?_)
  · obtain ⟨p, cs, c, x, rfl, _⟩ := h
    rfl
  · obtain ⟨p, cs, c, x, rfl, ⟨⟨d, dx, hp, hd⟩, _, _, _⟩, k⟩ := h
    have hu := hu_of hr
    refine ⟨_, pss_one (ps_ret (pe_dget2 hu (pe_fld (pv 0) rfl) (pv 1) pe_int ⟨rfl, rfl, rfl, rfl⟩)), ?_⟩
    have hg : DGet H d (V.str x) ((lookO cs x).map V.int) := by
      rw [← valV_dk]
      exact DGet.k (k := Sum.inr x) hd
    refine ⟨_, rfl, p, C, dx, _, _, rfl, hp, T.cl, T.nF, ffl_cf d c, d, rfl, .inl ⟨_, .inl hd⟩, _, rfl, _, hg, ?_⟩
    have e : ((lookO cs x).map V.int).getD (V.int 0) = V.int (look cs x) := by
      unfold look
      cases lookO cs x <;> rfl
    rw [e]
    exact k
theorem ok_cn (F : Fun K "__contains__" "Form.__contains__" sForm_contains f fd) (T : FTx K mg C) : FnOk P w K mg base CX0 1 f fd ["self", "name"] (spCn C) := by
  refine F.ok scCn (fun vs H Q E h => ?_) (fun cdv A outer s H vs Q E hr h => ?_)
  · obtain ⟨p, cs, c, x, rfl, _⟩ := h
    rfl
  · obtain ⟨p, cs, c, x, rfl, ⟨⟨d, dx, hp, hd⟩, _, _, _⟩, k⟩ := h
    have hu := hu_of hr
    refine ⟨_, pss_one (ps_ret (pe_cmp (pc_din hu (pv 1) (pe_fld (pv 0) rfl)))), ?_⟩
    have hg : DGet H d (V.str x) ((lookO cs x).map V.int) := by
      rw [← valV_dk]
      exact DGet.k (k := Sum.inr x) hd
    refine ⟨_, rfl, _, rfl, p, C, dx, _, _, rfl, hp, T.cl, T.nF, ffl_cf d c, d, _, rfl, hg, ?_⟩
    rw [Option.isSome_map]
    exact k
theorem ok_ln (F : Fun K "__len__" "Form.__len__" sForm_len f fd) (T : FTx K mg C) (mL : mg "len" = none) : FnOk P w K mg base CX0 1 f fd ["self"] (spLn C) := by
  refine F.ok scLn (fun vs H Q E h => ?_) (fun cdv A outer s H vs Q E hr h => ?_)
  · obtain ⟨p, cs, c, rfl, _⟩ := h
    rfl
  · obtain ⟨p, cs, c, rfl, ⟨⟨d, dx, hp, hd⟩, _, _, _⟩, k⟩ := h
    refine ⟨_, pss_one (ps_ret (pe_callB call_lenD (by rfl) mL PySem.boot_len (pa_cons (pe_fld (pv 0) rfl) pa_nil))), ?_⟩
    refine ⟨_, rfl, p, C, dx, _, _, rfl, hp, T.cl, T.nF, ffl_cf d c, d, _, rfl, hd, ?_⟩
    rw [dk_len]
    exact k
end
end OS
namespace OS
open PySem L2 PySem.Spec PyProof.Rows
section
variable {X : Cx} {CX : CXT} {k : Nat} {f C : Addr} {fd : FuncData} {ps : List Str} {sp : Sp} {E : L2.St → XK} {x : Str} {p pos : Pos} {e : Expr} {es : List Expr} {t : TA} {ds : List Value} {dvs : List V}
theorem run_makeSD {pins : List (Addr × Obj)} {σ : L2.St} {H : Hp} {s : Shared} {Q : VK} {us : List Value} {vs : List V} (M : Mk X.K C f) (F : FnOk X.prog X.w X.K X.mg X.base CX k f fd ps sp) (hr : Room (k + 1) X.A) (hb : Binds X.K fd ps ds) (hd : Vals dvs ds) (hx : PassesAt CX X σ (E σ))
    (I : Inv X pins σ H s) (r : Vals vs us)
    (h : ∀ x dx, H x = none → H dx = none → dx ≠ x → sp (.ref x :: (vs ++ dvs)) (upd (upd H dx (.own x)) x (.ins C dx [])) (fun v H2 => v = .non ∧ Q (.ref x) H2) (E σ)) :
    wpAny (model X.prog X.w) X.A (call (.ref C) us) (EP X pins σ Q) X.xe s := by
  have hq := h (s.heap.objs.size + 1) s.heap.objs.size (I.hok.fresh (Nat.le_succ _)) (I.hok.fresh (Nat.le_refl _)) (Nat.ne_of_lt (Nat.lt_succ_self _))
  have I2 := Inv.made (C := C) I
  have r2 : Vals (V.ref (s.heap.objs.size + 1) :: (vs ++ dvs)) (Value.ref (s.heap.objs.size + 1) :: (us ++ ds)) := .cons rfl (r.append hd)
  have hl : (Value.ref (s.heap.objs.size + 1) :: us ++ ds).length = ps.length := by
    have e := r2.length
    rw [F.len _ _ _ _ hq] at e
    exact e.symm
  refine wpAny_call (make_map (f := f) I.kIn M.makes M.init (beq_iff_eq.mp M.fn) (codeAny_mono (F.run _ X.stack _ _ ⟨Value.ref (s.heap.objs.size + 1) :: us, []⟩ (Value.ref (s.heap.objs.size + 1) :: (us ++ ds)) _ _ (E σ) (hr.make C us [])
    (I2.env0.make C us []) (hb _ (Value.ref (s.heap.objs.size + 1) :: us) I2.kIn hl) r2 hq) fun r s' hq' => ?_))
  cases r with
  | error e => exact hx pins _ _ e s' I2 hq'
  | ok fl =>
    cases fl with
    | ret u =>
      obtain ⟨v, H', I3, rv, ev, q3⟩ := I2.after hq'
      subst ev
      exact ⟨rv, ⟨V.ref (s.heap.objs.size + 1), H', I3, rfl, q3⟩⟩
    | next => exact False.elim hq'
    | brk => exact False.elim hq'
    | cont => exact False.elim hq'
/-- C(e, ..), defaults behind -/
def tMakeSD (C : Addr) (sp : Sp) (dvs : List V) (E : L2.St → XK) (t : TA) : TE := fun σ H Q => t σ H fun vs H1 => ∀ x dx, H1 x = none → H1 dx = none → dx ≠ x → sp (.ref x :: (vs ++ dvs)) (upd (upd H1 dx (.own x)) x (.ins C dx [])) (fun v H2 => v = .non ∧ Q (.ref x) H2) (E σ)
theorem pe_makeSD (M : Mk X.K C f) (F : FnOk X.prog X.w X.K X.mg X.base CX k f fd ps sp) (hr : Room (k + 1) X.A) (hg : Gl X x) (hm : X.mg x = some (.ref C)) (hb : Binds X.K fd ps ds) (hd : Vals dvs ds) (hx : ∀ σ, PassesAt CX X σ (E σ))
    (ha : PA X (e :: es) t) (hdb : (x == ("__debug__" : Str)) = false := by decide) (he : starEach (e :: es) X.env = (false, eval e X.env) :: starEach es X.env := by rfl) (hpl : (backTo pos (starEach es X.env)).any (·.1) = false := by rfl) :
    PE X (.Call (.Name x p) (e :: es) [] pos) (tMakeSD C sp dvs E t) := by
  refine ⟨fun pins s σ H Q I h => ?_⟩
  refine wpAny_Call_Name_kw (ld_glob I hg hm ?_ hdb)
  refine PySem.W.callWith_K (h₀ := X.base) I.ok.mod.kin M.kp (thn (ha.run pos pins s σ H _ I h) fun us s1 ⟨vs, H1, I1, r, q⟩ => ⟨I1.kIn, ?_⟩) he hpl
  exact run_makeSD M F hr hb hd (hx σ) I1 r q
end
end OS
namespace OS
open PySem L2
/-- what the new form needs and gives -/
theorem made_sp {C CB : Addr} {H : Hp} {d : Addr} {kvs : Cf} {c : Int} {Q : Addr → Hp → Prop} {E : XK} (hd : H d = some (.dK (dk kvs))) (nd : (kvs.map (·.1)).Nodup) (hl : kvs.length < 64) (hsz : ∀ e ∈ kvs, e.1.length ≤ 1000)
    (k1 : (∀ e ∈ kvs, good e.1 = true) → ∀ (p : Addr) (cs : Cf) (H' : Hp), H p = none → (∀ k, look cs k = look kvs k) → FormAt C H' p cs c → (∃ d' dx', H' p = some (.ins C dx' (ffl d' c)) ∧ H' d' = some (.dK (dk cs)) ∧ H d' = none) → Same H H' → Q p H')
    (k2 : ∀ n, bads kvs = some n → ∀ (dd : Addr) (H' : Hp), H dd = none → H' dd = some (.xd [("name", .str n)]) → (∀ b o, H b = some o → b ≠ d → H' b = some o) → E (.ref CB) (some dd) H') :
    ∀ x dx, H x = none → H dx = none → dx ≠ x → spInitX C CB [.ref x, .ref d, .int c] (L2.upd (L2.upd H dx (.own x)) x (.ins C dx [])) (fun v H2 => v = .non ∧ Q x H2) E := by
  intro x dx nx ndx ne
  have nxd : d ≠ x := ne_of_none hd nx
  have nxd2 : d ≠ dx := ne_of_none hd ndx
  have s0 : Same H (L2.upd (L2.upd H dx (.own x)) x (.ins C dx [])) := sameUpd (sameUpd (Same.refl _) ndx) nx
  refine ⟨x, dx, d, kvs, c, rfl, upd_same, s0 _ _ hd, nd, hl, hsz, fun hg cs H' hlk FA hff hk => ⟨rfl, ?_⟩, fun n hn dd H' hdd hx hk => ?_⟩
  · obtain ⟨d', dx', e1, e2, e3⟩ := hff
    exact k1 hg x cs H' nx hlk FA ⟨d', dx', e1, e2, s0.free e3⟩ fun b o e => hk b o (s0 _ _ e) (ne_of_none e nx)
  · exact k2 n hn dd H' (s0.free hdd) hx fun b o e n2 => hk b o (s0 _ _ e) (ne_of_none e nx) n2
def spMade (C : Addr) : Sp := fun vs H Q _ => ∃ (d : Addr) (kvs : Cf) (c plan : Int), vs = [.ref d, .int c, .int plan] ∧ H d = some (.dK (dk kvs)) ∧ (kvs.map (·.1)).Nodup ∧ kvs.length < 64 ∧ (∀ e ∈ kvs, e.1.length ≤ 1000) ∧
  ((∀ e ∈ kvs, good e.1 = true) → ∀ (T p : Addr) (cs : Cf) (H' : Hp), H T = none → H' T = some (.tup [.str "form", .ref p]) → (∀ k, look cs k = look kvs k) → FormAt C H' p cs c → (∃ d' dx', H' p = some (.ins C dx' (ffl d' c)) ∧ H' d' = some (.dK (dk cs)) ∧ H d' = none) → Same H H' → Q (.ref T) H') ∧
  (∀ n, bads kvs = some n → ∀ (T : Addr) (H' : Hp), H' T = some (.tup [.str "bad", .str n]) → (∀ b o, H b = some o → b ≠ d → H' b = some o) → Q (.ref T) H')
section
variable {P : Program} {w : World} {K : PySem.W.Frag} {mg : Str → Option Value} {base : Heap}
abbrev psF : List Str := ["self", "coefficients", "constant"]
theorem scMade : FnScope ["_law_handed", "_law_offset", "_law_plan", "e"] ["_law_handed", "_law_offset", "_law_plan"] (defScope s_made) := ⟨rfl, rfl, rfl, by decide +kernel, rfl, by decide +kernel, by decide +kernel⟩
theorem ok_made {f fF C CB fB : Addr} {fd dF : FuncData} {ds : List Value} {g1 g2 : List Value → List Value → List Value} (F : Fun K "_law_made" "_law_made" s_made f fd) (U : ErrC K mg "BadName" CB fB "name") (mC : mg "Form" = some (.ref C)) (M : Mk K C fF)
    (EF : FnOk P w K mg base (L2.CX P w) 3 fF dF psF (spInitX C CB)) (b0 : Binds K dF psF []) (b1 : Binds K dF psF ds) (v1 : Vals [V.int 0] ds)
    (kb1 : KBn K dF psF 2 ["constant"] g1 (fun vs zs => vs ++ zs)) (kb2 : KBn K dF psF 1 ["constant", "coefficients"] g2 (fun vs zs => vs ++ zs.reverse)) :
    FnOk P w K mg base CX0 5 f fd ["_law_handed", "_law_offset", "_law_plan"] (spMade C) := by
  refine F.ok scMade (fun vs H Q E h => ?_) (fun cdv A outer s H vs Q E hr h => ?_)
  · obtain ⟨d, kvs, c, plan, rfl, _⟩ := h
    rfl
  · obtain ⟨d, kvs, c, plan, rfl, hd, nd, hlen, hsz, k1, k2⟩ := h
    refine ⟨_, pss_one (ps_try_as (i := 3) (tb := fun W => _)
        (ts := fun a cls dd => tRet (tTup (tCons (tC (.str "bad")) (tCons (tXf a cls dd CB "name" (tVar 3)) tNil)))) (Wout := fun _ _ _ _ => False) rfl rfl scMade.nd rfl rfl ⟨rfl, by decide, Or.inl U.mg⟩ takes0
      (fun W pn xe tk _ => pss_cons (ps_if (pt_cmpR op_eq (pv 2) pe_int (nomark _)) (pss_one (ps_ret (pe_tup (pa_cons pe_str (pa_cons (pe_makeKS (n := 1) M EF hr rfl mC kb1 (fun σ => passAt tk σ) (pa_cons (pv 0) pa_nil) (pk_cons (pv 1) pk_nil)) pa_nil))))) pss_nil)
        (pss_cons (ps_if (pt_cmpR op_eq (pv 2) pe_int (nomark _)) (pss_one (ps_ret (pe_tup (pa_cons pe_str (pa_cons (pe_makeKS0 M EF hr rfl mC kb2 (fun σ => passAt tk σ) (pk_cons (pv 1) (pk_cons (pv 0) pk_nil))) pa_nil))))) pss_nil)
        (pss_cons (ps_if (pt_cmpR op_eq (pv 1) pe_int (nomark _)) (pss_one (ps_ret (pe_tup (pa_cons pe_str (pa_cons (pe_makeSD M EF hr rfl mC b1 v1 (fun σ => passAt tk σ) (pa_cons (pv 0) pa_nil)) pa_nil))))) pss_nil)
        (pss_one (ps_ret (pe_tup (pa_cons pe_str (pa_cons (pe_makeSD M EF hr rfl mC b0 .nil (fun σ => passAt tk σ) (pa_cons (pv 0) (pa_cons (pv 1) pa_nil))) pa_nil))))))))
      (fun a oe cls dd pn hz hf => pss_one (ps_ret (pe_tup (pa_cons pe_str (pa_cons (by exact (pe_xf U.xf U.no hz hf (pv 3))) pa_nil)))))), ?_⟩
    have A : (∀ e ∈ kvs, good e.1 = true) → ∀ (p : Addr) (cs : Cf) (H' : Hp), H p = none → (∀ k, look cs k = look kvs k) → FormAt C H' p cs c → (∃ d' dx', H' p = some (.ins C dx' (ffl d' c)) ∧ H' d' = some (.dK (dk cs)) ∧ H d' = none) → Same H H' →
        2 ≤ sizeLine ∧ ∀ T, H' T = none → Q (.ref T) (L2.upd H' T (.tup [.str "form", .ref p])) := by
      intro hg p cs H' np hlk FA hff s1
      refine ⟨by decide, fun T hT => ?_⟩
      obtain ⟨d', dx', e1, e2, e3⟩ := hff
      have s2 : Same H' (L2.upd H' T (.tup [.str "form", .ref p])) := sameUpd (Same.refl _) hT
      exact k1 hg T p cs _ (s1.free hT) upd_same hlk (FA.same s2) ⟨d', dx', s2 _ _ e1, s2 _ _ e2, e3⟩ (s1.trans s2)
    have B : ∀ n, bads kvs = some n → ∀ (dd : Addr) (H' : Hp), H dd = none → H' dd = some (.xd [("name", .str n)]) → (∀ b o, H b = some o → b ≠ d → H' b = some o) → ∀ T, H' T = none → Q (.ref T) (L2.upd H' T (.tup [.str "bad", .str n])) := by
      intro n hn dd H' _ _ hk T hT
      refine k2 n hn T _ upd_same fun b o e n2 => ?_
      rw [upd_ne (ne_of_none (hk b o e n2) hT)]
      exact hk b o e n2
    refine ⟨_, rfl, rfl, _, rfl, ?_⟩
    refine ite2 (fun _ => ?_) (fun _ => ?_)
    · refine ⟨_, rfl, _, rfl, rfl, rfl, fun x dx nx ndx ne => made_sp (C := C) (CB := CB) hd nd hlen hsz A (fun n hn dd H' ndd hx hk => ?_) x dx nx ndx ne⟩
      refine ⟨true, U.te, fun _ a0 na => ?_, fun q => Bool.noConfusion q⟩
      exact ⟨_, rfl, rfl, rfl, dd, _, _, rfl, hx, rfl, by show 2 ≤ sizeLine; decide, B n hn dd H' ndd hx hk⟩
    refine ⟨_, rfl, rfl, _, rfl, ?_⟩
    refine ite2 (fun _ => ?_) (fun _ => ?_)
    · refine ⟨_, rfl, _, rfl, rfl, rfl, fun x dx nx ndx ne => made_sp (C := C) (CB := CB) hd nd hlen hsz A (fun n hn dd H' ndd hx hk => ?_) x dx nx ndx ne⟩
      refine ⟨true, U.te, fun _ a0 na => ?_, fun q => Bool.noConfusion q⟩
      exact ⟨_, rfl, rfl, rfl, dd, _, _, rfl, hx, rfl, by show 2 ≤ sizeLine; decide, B n hn dd H' ndd hx hk⟩
    refine ⟨_, rfl, rfl, _, rfl, ?_⟩
    refine ite2 (fun h0 => ?_) (fun _ => ?_)
    · have hc : c = 0 := V.int.inj (of_decide_eq_true h0)
      subst hc
      refine ⟨_, rfl, fun x dx nx ndx ne => made_sp (C := C) (CB := CB) hd nd hlen hsz A (fun n hn dd H' ndd hx hk => ?_) x dx nx ndx ne⟩
      refine ⟨true, U.te, fun _ a0 na => ?_, fun q => Bool.noConfusion q⟩
      exact ⟨_, rfl, rfl, rfl, dd, _, _, rfl, hx, rfl, by show 2 ≤ sizeLine; decide, B n hn dd H' ndd hx hk⟩
    · refine ⟨_, rfl, _, rfl, fun x dx nx ndx ne => made_sp (C := C) (CB := CB) hd nd hlen hsz A (fun n hn dd H' ndd hx hk => ?_) x dx nx ndx ne⟩
      refine ⟨true, U.te, fun _ a0 na => ?_, fun q => Bool.noConfusion q⟩
      exact ⟨_, rfl, rfl, rfl, dd, _, _, rfl, hx, rfl, by show 2 ≤ sizeLine; decide, B n hn dd H' ndd hx hk⟩
end
end OS
namespace OS
open PySem L2
/-! ### drawn names, integers, parts -/
theorem StAt.mono {H : Hp} {st cl : Addr} {m n : Nat} (S : StAt H st cl m) (h : m ≤ n) : StAt H st cl n := by
  obtain ⟨⟨p, c, a, b, d⟩, e, f⟩ := S
  exact ⟨⟨p, c, a, b, by omega⟩, e, f⟩
theorem Kb.refl {st cl : Addr} (H : Hp) : Kb st cl H H := fun _ _ e _ _ => e
theorem Kb.trans {st cl : Addr} {H H1 H2 : Hp} (a : Kb st cl H H1) (b : Kb st cl H1 H2) : Kb st cl H H2 := fun x o e h1 h2 => b x o (a x o e h1 h2) h1 h2
theorem Kb.same {st cl : Addr} {H H1 H2 : Hp} (a : Kb st cl H H1) (b : Same H1 H2) : Kb st cl H H2 := fun x o e h1 h2 => b x o (a x o e h1 h2)
theorem Kb.new {st cl D : Addr} {H H1 : Hp} {o : HO} (a : Kb st cl H H1) (h : H D = none) : Kb st cl H (L2.upd H1 D o) := fun x u e h1 h2 => by
  rw [upd_ne (ne_of_none e h)]
  exact a x u e h1 h2
/-- what is free behind draws was free ahead -/
theorem StAt.free {st cl D : Addr} {H H1 : Hp} {m n : Nat} (S : StAt H st cl m) (S1 : StAt H1 st cl n) (a : Kb st cl H H1) (h : H1 D = none) : H D = none := by
  obtain ⟨d1, d2⟩ := S1.nst h
  cases q : H D with
  | none => rfl
  | some o => rw [a D o q d1 d2] at h; cases h
abbrev chS : Str := "abcdefghijklmnopqrstuvwxyz0123456789"
theorem chS_len : chS.cps.toList.length = 36 := by decide +kernel
theorem chS_low : ∀ j : Fin 26, chS.cps.toList[j.val]'(by rw [chS_len]; omega) ∈ lowL.cps.toList := by decide +kernel
theorem chS_ok : ∀ j : Fin 36, chOk (chS.cps.toList[j.val]'(by rw [chS_len]; exact j.isLt)) = true := by decide +kernel
theorem good_of {z : Str} {c : Nat} {r : List Nat} (e : z.cps.toList = c :: r) (hl : r.length ≤ 5) (hc : c ∈ lowL.cps.toList) (hr : ∀ x ∈ r, chOk x = true) (hm : z ≠ "mod") : good z = true := by
  unfold good
  rw [if_neg hm, e, if_neg (by simp; omega)]
  show (if c ∈ lowL.cps.toList then _ else _) = true
  rw [if_pos hc, List.all_cons]
  rw [show chOk c = true by unfold chOk; rw [decide_eq_true hc]; rfl, Bool.true_and]
  exact List.all_eq_true.mpr hr
theorem tl_sign (c : Nat) : TL.tl (⟨#[c]⟩ : Str) = [c] := rfl
def spName : Sp := fun vs H Q _ => ∃ (st cl : Addr) (m : Nat), vs = [.ref st] ∧ StAt H st cl m ∧ m ≤ 900000000 ∧
  ∀ (z : Str) (H' : Hp), good z = true → StAt H' st cl (m + 8) → Kb st cl H H' → Q (.str z) H'
/-- the size of a drawn integer -/
def Bnd (n : Int) : Prop := n.natAbs ≤ 21000000000000000000000000000
def spInt : Sp := fun vs H Q _ => ∃ (st cl : Addr) (m : Nat), vs = [.ref st] ∧ StAt H st cl m ∧ m ≤ 900000000 ∧
  ∀ (n : Int) (H' : Hp), Bnd n → StAt H' st cl (m + 3) → Kb st cl H H' → Q (.int n) H'
/-- drawn parts -/
structure PartsOk (kvs : Cf) (n : Nat) : Prop where
  nd : (kvs.map (·.1)).Nodup
  len : kvs.length ≤ n
  gd : ∀ e ∈ kvs, good e.1 = true
  bd : ∀ e ∈ kvs, Bnd e.2
def spParts : Sp := fun vs H Q _ => ∃ (st cl : Addr) (m : Nat), vs = [.ref st] ∧ StAt H st cl m ∧ m ≤ 800000000 ∧
  ∀ (d : Addr) (kvs : Cf) (H' : Hp), H d = none → H' d = some (.dK (dk kvs)) → PartsOk kvs 4 → StAt H' st cl (m + 100) → Kb st cl H H' → Q (.ref d) H'
section
variable {P : Program} {w : World} {K : PySem.W.Frag} {mg : Str → Option Value} {base : Heap}
abbrev nName : List Str := ["_law_state", "_law_chars", "_law_size", "_law_name_here", "_law_k"]
theorem scName : FnScope nName ["_law_state"] (defScope s_name) := ⟨rfl, rfl, rfl, by decide +kernel, rfl, by decide +kernel, by decide +kernel⟩
theorem ok_name {f fT : Addr} {fd dT : FuncData} (F : Fun K "_law_name" "_law_name" s_name f fd) (mR : mg "range" = none)
    (ET : FnOk P w K mg base CX0 1 fT dT ["_law_state", "_law_limit"] spTake) (GT : Df K mg "_law_take" fT) (bT : Binds K dT ["_law_state", "_law_limit"] []) : FnOk P w K mg base CX0 2 f fd ["_law_state"] spName := by
  refine F.ok scName (fun vs H Q E h => ?_) (fun cdv A outer s H vs Q E hr h => ?_)
  · obtain ⟨st, cl, m, rfl, _⟩ := h
    rfl
  · obtain ⟨st, cl, m, rfl, S, hm, k⟩ := h
    refine ⟨_, pss_cons (ps_set (i := 1) scName.nd rfl (Or.inl rfl) pe_str)
      (pss_cons (ps_set (i := 2) scName.nd rfl (Or.inl rfl) (pe_call ET hr rfl GT.mg GT.kp bT .nil pass0 (pa_cons (pv 0) (pa_cons pe_int pa_nil))))
      (pss_cons (ps_set (i := 3) scName.nd rfl (Or.inl rfl) (pe_ix ix_str (pv 1) (pe_call ET hr rfl GT.mg GT.kp bT .nil pass0 (pa_cons (pv 0) (pa_cons pe_int pa_nil))) fun _ _ => rfl))
      (pss_cons (ps_for PassesOwn.never rfl (pi_range1 rfl mR (pa_cons (pv 2) pa_nil)) (pg_name (i := 4) scName.nd rfl (Or.inl rfl))
        (pss_one (ps_set (i := 3) scName.nd rfl (Or.inl rfl) (pe_op op_add_str (pv 3) (pe_ix ix_str (pv 1) (pe_call ET hr rfl GT.mg GT.kp bT .nil pass0 (pa_cons (pv 0) (pa_cons pe_int pa_nil))) fun _ _ => rfl)))))
      (C8.pss_cut (ps_if (pt_cmpR op_eq (pv 3) pe_str (nomark _)) (pss_one (ps_set (i := 3) scName.nd rfl (Or.inl rfl) pe_str)) pss_nil)
      (pss_one (ps_ret (pv 3))))))), ?_⟩
    have hcl : chS.length ≤ sizeLine := by decide +kernel
    refine ⟨_, rfl, st, cl, m, 6, rfl, S, by omega, by decide, by decide, fun size H1 z0 z1 S1 k1 => ?_⟩
    refine ⟨_, rfl, _, rfl, st, cl, m + 1, 26, rfl, S1, by omega, by decide, by decide, fun c H2 c0 c1 S2 k2 => ?_⟩
    have hc : c.toNat < 26 := by omega
    have hlow := chS_low ⟨c.toNat, hc⟩
    have hci : c.toNat < chS.cps.toList.length := by rw [chS_len]; omega
    refine ⟨chS, _, _, rfl, rfl, hcl, atI_in c0 (List.getElem?_eq_getElem hci), ?_⟩
    refine ⟨_, rfl, _, rfl, by omega, by omega, for_range (lo := 0) (n := size.toNat) (fun i σ H' => ∃ (z : Str) (r : List Nat) (v : Option V), σ = [some (.ref st), some (.str chS), some (.int size), some (.str z), v] ∧ z.cps.toList = (chS.cps.toList[c.toNat]) :: r ∧ r.length = i ∧ (∀ x ∈ r, chOk x = true) ∧ StAt H' st cl (m + 2 + i) ∧ Kb st cl H H')
      ⟨_, [], none, rfl, rfl, rfl, (fun x hx => by cases hx), S2, k1.trans k2⟩ ?_ ?_⟩
    · rintro i σ H3 hi ⟨z, r, v, rfl, hz, hrl, hr', S3, k3⟩
      refine ⟨_, rfl, _, rfl, _, rfl, st, cl, m + 2 + i, 36, rfl, S3, by omega, by decide, by decide, fun e H4 e0 e1 S4 k4 => ?_⟩
      have he : e.toNat < 36 := by omega
      have hok := chS_ok ⟨e.toNat, he⟩
      have hei : e.toNat < chS.cps.toList.length := by rw [chS_len]; omega
      refine ⟨chS, _, _, rfl, rfl, hcl, atI_in e0 (List.getElem?_eq_getElem hei), ?_⟩
      refine ⟨_, _, rfl, rfl, ?_, ?_⟩
      · have : z.length = 1 + i := by rw [Str.len_list, hz, List.length_cons, hrl]; omega
        show z.length + 1 ≤ sizeLine
        exact Nat.le_of_lt (small1000 (by omega))
      · refine ⟨_, r ++ [chS.cps.toList[e.toNat]], _, rfl, ?_, by rw [List.length_append, hrl]; rfl, ?_, S4.mono (by omega), k3.trans k4⟩
        · show TL.tl (z ++ _) = _
          rw [TL.tl_append, tl_sign]
          show z.cps.toList ++ _ = _
          rw [hz]
          rfl
        · intro x hx
          rcases List.mem_append.mp hx with q | q
          · exact hr' x q
          · cases List.mem_singleton.mp q; exact hok
    · rintro σ H3 ⟨z, r, v, rfl, hz, hrl, hr', S3, k3⟩
      refine ⟨fun σ H' => H' = H3 ∧ ∃ z : Str, good z = true ∧ σ = [some (.ref st), some (.str chS), some (.int size), some (.str z), v], ?_, ?_⟩
      · refine ⟨_, rfl, rfl, _, rfl, ?_⟩
        refine ite2 (fun _ => ?_) (fun h => ?_)
        · exact ⟨rfl, _, by decide +kernel, rfl⟩
        · refine ⟨rfl, z, good_of hz (by omega) hlow hr' (fun e => h (decide_eq_true (congrArg V.str e))), rfl⟩
      · rintro σ H4 ⟨rfl, z, hg, rfl⟩
        refine ⟨_, rfl, ?_⟩
        exact k z H4 hg (S3.mono (by omega)) k3
abbrev nInt : List Str := ["_law_state", "_law_plan", "_law_number"]
theorem scInt : FnScope nInt ["_law_state"] (defScope s_integer) := ⟨rfl, rfl, rfl, by decide +kernel, rfl, by decide +kernel, by decide +kernel⟩
theorem ok_int {f fT : Addr} {fd dT : FuncData} (F : Fun K "_law_integer" "_law_integer" s_integer f fd)
    (ET : FnOk P w K mg base CX0 1 fT dT ["_law_state", "_law_limit"] spTake) (GT : Df K mg "_law_take" fT) (bT : Binds K dT ["_law_state", "_law_limit"] []) : FnOk P w K mg base CX0 2 f fd ["_law_state"] spInt := by
  refine F.ok scInt (fun vs H Q E h => ?_) (fun cdv A outer s H vs Q E hr h => ?_)
  · obtain ⟨st, cl, m, rfl, _⟩ := h
    rfl
  · obtain ⟨st, cl, m, rfl, S, hm, k⟩ := h
    refine ⟨_, pss_cons (ps_set (i := 1) scInt.nd rfl (Or.inl rfl) (pe_call ET hr rfl GT.mg GT.kp bT .nil pass0 (pa_cons (pv 0) (pa_cons pe_int pa_nil))))
      (pss_cons (ps_set (i := 2) scInt.nd rfl (Or.inl rfl) (pe_op op_sub (pe_call ET hr rfl GT.mg GT.kp bT .nil pass0 (pa_cons (pv 0) (pa_cons pe_int pa_nil))) pe_int))
      (C8.pss_cut (ps_if (pt_cmpR op_eq (pv 1) pe_int (nomark _)) (pss_one (ps_set (i := 2) scInt.nd rfl (Or.inl rfl) (pe_op op_sub (pe_call ET hr rfl GT.mg GT.kp bT .nil pass0 (pa_cons (pv 0) (pa_cons pe_int pa_nil))) pe_int))) pss_nil)
      (C8.pss_cut (ps_if (pt_cmpR op_eq (pv 1) pe_int (nomark _)) (pss_one (ps_set (i := 2) scInt.nd rfl (Or.inl rfl) (pe_op op_sub (pe_op op_add (pe_op op_mul (pv 2) (pe_op op_pow pe_int pe_int)) (pe_call ET hr rfl GT.mg GT.kp bT .nil pass0 (pa_cons (pv 0) (pa_cons pe_int pa_nil)))) pe_int))) pss_nil)
      (pss_one (ps_ret (pv 2)))))), ?_⟩
    refine ⟨_, rfl, st, cl, m, 4, rfl, S, by omega, by decide, by decide, fun plan H1 p0 p1 S1 k1 => ?_⟩
    refine ⟨_, rfl, st, cl, m + 1, 41, rfl, S1, by omega, by decide, by decide, fun a H2 a0 a1 S2 k2 => ?_⟩
    refine ⟨_, _, rfl, rfl, ?_⟩
    refine ⟨fun σ H' => ∃ n : Int, -20 ≤ n ∧ n ≤ 20 ∧ σ = [some (.ref st), some (.int plan), some (.int n)] ∧ Kb st cl H H' ∧ ((plan ≠ 0 ∧ StAt H' st cl (m + 2)) ∨ (plan = 0 ∧ StAt H' st cl (m + 3))), ?_, ?_⟩
    · refine ⟨_, rfl, rfl, _, rfl, ?_⟩
      refine ite2 (fun h => ?_) (fun h => ?_)
      · have hp : plan = 0 := V.int.inj (of_decide_eq_true h)
        refine ⟨_, rfl, st, cl, m + 2, 3, rfl, S2, by omega, by decide, by decide, fun b H3 b0 b1 S3 k3 => ?_⟩
        refine ⟨_, _, rfl, rfl, ?_⟩
        exact ⟨_, by show -20 ≤ b - 1; omega, by show b - 1 ≤ 20; omega, rfl, (k1.trans k2).trans k3, .inr ⟨hp, S3⟩⟩
      · have hp : plan ≠ 0 := fun e => h (decide_eq_true (congrArg V.int e))
        exact ⟨_, by show -20 ≤ a - 20; omega, by show a - 20 ≤ 20; omega, rfl, k1.trans k2, .inl ⟨hp, S2⟩⟩
    rintro σ3 H3 ⟨n, n0, n1, rfl, k3, hS⟩
    refine ⟨fun σ H' => ∃ n : Int, Bnd n ∧ σ = [some (.ref st), some (.int plan), some (.int n)] ∧ Kb st cl H H' ∧ StAt H' st cl (m + 3), ?_, ?_⟩
    · refine ⟨_, rfl, rfl, _, rfl, ?_⟩
      refine ite2 (fun h => ?_) (fun h => ?_)
      · have hp : plan = 3 := V.int.inj (of_decide_eq_true h)
        have S3 : StAt H3 st cl (m + 2) := by
          rcases hS with ⟨_, S⟩ | ⟨e, _⟩
          · exact S
          · omega
        refine ⟨_, rfl, _, _, rfl, rfl, ⟨by decide, by decide, by decide⟩, _, _, rfl, rfl, .inl ⟨by omega, by omega⟩, ?_⟩
        refine ⟨_, rfl, st, cl, m + 2, 2000001, rfl, S3, by omega, by decide, by decide, fun b H4 b0 b1 S4 k4 => ?_⟩
        refine ⟨_, _, rfl, rfl, _, _, rfl, rfl, ?_⟩
        refine ⟨_, ?_, rfl, k3.trans k4, S4⟩
        have e10 : ((10 : Int) ^ (27 : Int).toNat) = 1000000000000000000000000000 := by decide
        show (n * ((10 : Int) ^ (27 : Int).toNat) + b - 1000000).natAbs ≤ 21000000000000000000000000000
        rw [e10]
        omega
      · refine ⟨_, ?_, rfl, k3, ?_⟩
        · show n.natAbs ≤ 21000000000000000000000000000
          omega
        · rcases hS with ⟨_, S⟩ | ⟨_, S⟩
          · exact S.mono (by omega)
          · exact S
    · rintro σ4 H4 ⟨n, hb, rfl, k4, S4⟩
      refine ⟨_, rfl, ?_⟩
      exact k n H4 hb S4 k4
end
end OS
namespace OS
open PySem L2
theorem len_app (x y : Str) : (x ++ y).length = x.length + y.length := by
  have e : (TL.tl (x ++ y)).length = (TL.tl x).length + (TL.tl y).length := by rw [TL.tl_append, List.length_append]
  rw [Str.len_list, Str.len_list, Str.len_list]
  exact e
abbrev sg1 : Str := " !\"#$&'()*+,-./0123456789:;<=>?@ABCDEFGHIJKLMNOPQRSTUVWXYZ[\\]^_`"
abbrev sg2 : Str := "abcdefghijklmnopqrstuvwxyz{|}~"
/-- _law_signs() hands back a text of 94 signs -/
def spSigns : Sp := fun vs H Q _ => vs = [] ∧ ∀ z : Str, z.length = 94 → Q (.str z) H
section
variable {P : Program} {w : World} {K : PySem.W.Frag} {mg : Str → Option Value} {base : Heap}
theorem scSigns : FnScope ["_law_signs_here"] [] (defScope sSigns) := ⟨rfl, rfl, rfl, by decide +kernel, rfl, by decide +kernel, by decide +kernel⟩
theorem ok_signs {f : Addr} {fd : FuncData} (F : Fun K "_law_signs" "_law_signs" sSigns f fd) : FnOk P w K mg base CX0 1 f fd [] spSigns := by
  refine F.ok scSigns (fun vs H Q E h => ?_) (fun cdv A outer s H vs Q E hr h => ?_)
  · obtain ⟨rfl, _⟩ := h
    rfl
  · obtain ⟨rfl, k⟩ := h
    refine ⟨_, pss_cons (ps_set (i := 0) scSigns.nd rfl (Or.inl rfl) pe_str) (pss_one (ps_ret (pe_op op_add_str (pv 0) pe_str))), ?_⟩
    refine ⟨_, rfl, _, _, rfl, rfl, (by decide +kernel), ?_⟩
    exact k _ (by decide +kernel)
abbrev nGood : List Str := ["_law_text", "_law_letters", "_law_char"]
theorem scGood : FnScope nGood ["_law_text"] (defScope sGood) := ⟨rfl, rfl, rfl, by decide +kernel, rfl, by decide +kernel, by decide +kernel⟩
theorem ok_good {f : Addr} {fd : FuncData} (F : Fun K "_law_good" "_law_good" sGood f fd) (T : Bi mg) (mA : mg "all" = none) : FnOk P w K mg base CX0 1 f fd ["_law_text"] spValid := by
  refine F.ok scGood (fun vs H Q E h => ?_) (fun cdv A outer s H vs Q E hr h => ?_)
  · obtain ⟨z, rfl, _⟩ := h
    rfl
  · obtain ⟨z, rfl, hz, k⟩ := h
    refine ⟨_, pss_cons (ps_set (i := 1) scGood.nd rfl (Or.inr rfl) pe_str)
      (pss_cons (ps_if (PW.pt (pw_or (pt_cmpR op_eq (pv 0) pe_str (nomark _)) (pw_or (pt_cmpR op_lt (pe_callB call_len_str (by rfl) T.len PySem.boot_len (pa_cons (pv 0) pa_nil)) pe_int (nomark _))
        (pw_or (pt_cmpR op_gt (pe_callB call_len_str (by rfl) T.len PySem.boot_len (pa_cons (pv 0) pa_nil)) pe_int (nomark _)) (pw_or1 (pt_cmpR op_notIn_sign (pe_ix ix_str (pv 0) pe_int fun _ _ => rfl) (pv 1) rfl)))))) (pss_one (ps_ret pe_bl)) pss_nil)
      (pss_one (ps_ret (pe_callB (cr_all rfl) (by rfl) mA (by decide +kernel) (pa_cons
        (pe_lc (own := [("_law_char", 2)]) (g := gName 2) (tt := tYes) rfl scGood.nd (pi_str (pv 0)) (blkOk_by (own := [("_law_char", 2)]) (N := nGood) (sc := defScope sGood) (by decide +kernel))
        (fun _ _ _ _ _ => pg_name (i := 2) scGood.nd rfl (Or.inl rfl)) (fun _ _ _ _ _ => pts_nil) (fun _ _ _ _ _ => pe_or (pe_cmpR op_in_sign (pv 2) (pv 1) rfl) (pe_one (pe_cmpR op_in_sign (pv 2) pe_str rfl)))) pa_nil))))), ?_⟩
    have hs : z.length ≤ sizeLine := Nat.le_of_lt (small1000 hz)
    have hln := Str.len_list z
    have edec : decide (V.str z = V.str "mod") = decide (z = "mod") := by
      by_cases h : z = "mod"
      · rw [decide_eq_true h, decide_eq_true (congrArg V.str h)]
      · rw [decide_eq_false h, decide_eq_false (fun e => h (V.str.inj e))]
    refine ⟨_, rfl, rfl, _, rfl, ?_⟩
    rw [edec]
    have hkf : ∀ H', Same H H' → good z = false → Q (.bl false) H' := fun H' s g => by have := k H' s; rwa [g] at this
    refine ite2 (fun hm => ?_) (fun hm => ?_)
    · exact hkf H (Same.refl H) (by unfold good; rw [if_pos (of_decide_eq_true hm)])
    have hm' : ¬ z = "mod" := fun e => hm (decide_eq_true e)
    have hkb : ∀ H', Same H H' → ¬ (1 ≤ z.length ∧ z.length ≤ 6) → Q (.bl false) H' := fun H' s g => hkf H' s (by unfold good; rw [if_neg hm', if_pos (by omega)])
    refine ⟨_, rfl, _, rfl, hs, _, _, rfl, rfl, _, rfl, ?_⟩
    refine ite2 (fun h1 => ?_) (fun h1 => ?_)
    · have h1' : (z.length : Int) < 1 := of_decide_eq_true h1
      exact hkb H (Same.refl H) (by omega)
    have h1' : ¬ (z.length : Int) < 1 := fun e => h1 (decide_eq_true e)
    refine ⟨_, rfl, _, rfl, hs, _, _, rfl, rfl, _, rfl, ?_⟩
    refine ite2 (fun h6 => ?_) (fun h6 => ?_)
    · have h6' : 6 < (z.length : Int) := of_decide_eq_true h6
      exact hkb H (Same.refl H) (by omega)
    have h6' : ¬ 6 < (z.length : Int) := fun e => h6 (decide_eq_true e)
    -- text[0] not in letters
    obtain ⟨c0, l0, hl0⟩ : ∃ c0 l0, z.cps.toList = c0 :: l0 := by
      cases e : z.cps.toList with
      | nil => rw [e] at hln; simp at hln; omega
      | cons c l => exact ⟨c, l, rfl⟩
    refine ⟨_, rfl, _, _, c0, rfl, rfl, hs, ?_, _, rfl, _, _, rfl, rfl, _, rfl, ?_⟩
    · show atI _ _ = _
      exact atI_nat (j := 0) (by rw [hl0]; rfl)
    have gd : good z = (if c0 ∈ lowL.cps.toList then z.cps.toList.all chOk else false) := by
      unfold good
      rw [if_neg hm', if_neg (by omega), hl0]
      rfl
    by_cases hc : c0 ∈ lowL.cps.toList
    rotate_left
    · rw [decide_eq_false hc]
      refine iteT ?_
      exact hkf H (Same.refl H) (by rw [gd, if_neg hc])
    rw [decide_eq_true hc]
    refine iteF ?_
    rw [if_pos hc] at gd
    -- all([..])
    refine ⟨_, rfl, z, rfl, fun D hD => lc_it (walk_str (z := z)) (fun i H' => Same H H' ∧ H' D = some (.lst (((z.cps.toList.take i).map chOk).map V.bl))) ⟨?_, ?_⟩ (fun _ _ _ _ => trivial) ?_ ?_⟩
    · intro b o e
      rw [upd_ne (ne_of_none e hD)]
      exact e
    · rw [upd_same]
      rfl
    · intro i x H' H2 hi ⟨s1, s2⟩ ⟨e, c, hcc, ex⟩
      subst e
      subst ex
      have hcl : z.cps.toList[i]? = some c := by rw [Array.getElem?_toList]; exact hcc
      have step : Same H (upd H2 D (.lst (((z.cps.toList.take i).map chOk).map V.bl ++ [V.bl (chOk c)]))) ∧ (upd H2 D (.lst (((z.cps.toList.take i).map chOk).map V.bl ++ [V.bl (chOk c)]))) D = some (.lst (((z.cps.toList.take (i + 1)).map chOk).map V.bl)) := by
        refine ⟨fun b o e => ?_, ?_⟩
        · rw [upd_ne (ne_of_none e hD)]
          exact s1 b o e
        · rw [upd_same, List.take_succ, hcl]
          simp
      have hlen : (((z.cps.toList.take i).map chOk).map V.bl).length < sizeLine := by
        rw [List.length_map, List.length_map, List.length_take]
        exact small1000 (by omega)
      refine ⟨rfl, ?_⟩
      refine ⟨_, rfl, _, rfl, _, _, rfl, rfl, _, rfl, ?_⟩
      by_cases ha : c ∈ lowL.cps.toList
      · have ek : chOk c = true := by unfold chOk; rw [decide_eq_true ha]; rfl
        rw [ek] at step
        rw [decide_eq_true ha]
        refine iteT ?_
        exact ⟨_, s2, hlen, step⟩
      · have ek : chOk c = decide (c ∈ digL.cps.toList) := by unfold chOk; rw [decide_eq_false ha]; rfl
        rw [ek] at step
        rw [decide_eq_false ha]
        refine iteF ?_
        exact ⟨_, rfl, _, _, rfl, rfl, _, s2, hlen, step⟩
    · intro H' ⟨s1, s2⟩
      refine ⟨D, z.cps.toList.map chOk, rfl, ?_, ?_⟩
      · refine SqL.of ?_
        rw [s2, List.take_of_length_le (by rw [Array.length_toList]; exact Nat.le_refl _)]
      · have := k H' s1
        rw [gd] at this
        rw [List.all_map]
        exact this
end
end OS
namespace OS
open PySem L2
def spKey : Sp := fun vs H Q _ => ∃ (st cl : Addr) (m : Nat) (b : Str), vs = [.ref st, .str b] ∧ StAt H st cl m ∧ m ≤ 800000000 ∧ b.length ≤ 900 ∧
  ∀ (z : Str) (H' : Hp), z.length ≤ b.length + 20 → StAt H' st cl (m + 20) → Kb st cl H H' → Q (.str z) H'
section
variable {P : Program} {w : World} {K : PySem.W.Frag} {mg : Str → Option Value} {base : Heap}
abbrev nKey : List Str := ["_law_state", "_law_before", "_law_plan", "_law_name_here", "_law_signs_here", "_law_spot"]
theorem scKey : FnScope nKey ["_law_state", "_law_before"] (defScope s_key) := ⟨rfl, rfl, rfl, by decide +kernel, rfl, by decide +kernel, by decide +kernel⟩
theorem ok_key {f fT fN fG : Addr} {fd dT dN dG : FuncData} (F : Fun K "_law_key" "_law_key" s_key f fd) (T : Bi mg)
    (ET : FnOk P w K mg base CX0 1 fT dT ["_law_state", "_law_limit"] spTake) (GT : Df K mg "_law_take" fT) (bT : Binds K dT ["_law_state", "_law_limit"] [])
    (EN : FnOk P w K mg base CX0 2 fN dN ["_law_state"] spName) (GN : Df K mg "_law_name" fN) (bN : Binds K dN ["_law_state"] [])
    (EG : FnOk P w K mg base CX0 1 fG dG [] spSigns) (GG : Df K mg "_law_signs" fG) (bG : Binds K dG [] []) : FnOk P w K mg base CX0 3 f fd ["_law_state", "_law_before"] spKey := by
  refine F.ok scKey (fun vs H Q E h => ?_) (fun cdv A outer s H vs Q E hr h => ?_)
  · obtain ⟨st, cl, m, b, rfl, _⟩ := h
    rfl
  · obtain ⟨st, cl, m, b, rfl, S, hm, hb, k⟩ := h
    have hu := hu_of hr
    have hr1 : Room 1 _ := hr.mono (by decide)
    refine ⟨_, pss_cons (ps_set (i := 2) scKey.nd rfl (Or.inl rfl) (pe_call ET hr1 rfl GT.mg GT.kp bT .nil pass0 (pa_cons (pv 0) (pa_cons pe_int pa_nil))))
      (pss_cons (ps_set (i := 3) scKey.nd rfl (Or.inl rfl) (pe_call EN hr rfl GN.mg GN.kp bN .nil pass0 (pa_cons (pv 0) pa_nil)))
      (C8.pss_cut (ps_if (pt_cmpR op_eq (pv 2) pe_int (nomark _))
        (pss_cons (ps_set (i := 4) scKey.nd rfl (Or.inl rfl) (pe_op op_add_str (pe_call0 EG hr1 rfl GG.mg GG.kp bG .nil pass0) pe_str))
        (pss_cons (ps_set (i := 5) scKey.nd rfl (Or.inl rfl) (pe_call ET hr1 rfl GT.mg GT.kp bT .nil pass0 (pa_cons (pv 0) (pa_cons (pe_callB call_len_str (by rfl) T.len PySem.boot_len (pa_cons (pv 3) pa_nil)) pa_nil))))
        (pss_one (ps_set (i := 3) scKey.nd rfl (Or.inl rfl) (pe_op op_add_str (pe_op op_add_str (pe_slice sl_str (pv 3) po_none (po_some (pv 5)))
          (pe_ix ix_str (pv 4) (pe_call ET hr1 rfl GT.mg GT.kp bT .nil pass0 (pa_cons (pv 0) (pa_cons (pe_callB call_len_str (by rfl) T.len PySem.boot_len (pa_cons (pv 4) pa_nil)) pa_nil))) fun _ _ => rfl))
          (pe_slice sl_str (pv 3) (po_some (pe_op op_add (pv 5) pe_int)) po_none)))))) pss_nil)
      (C8.pss_cut (ps_if (pt_cmpR op_eq (pv 2) pe_int (nomark _)) (pss_one (ps_set (i := 3) scKey.nd rfl (Or.inl rfl) (pe_ix ix_list (pe_lst (pa_cons pe_str (pa_cons pe_str (pa_cons pe_str (pa_cons pe_str (pa_cons pe_str (pa_cons pe_str (pa_cons pe_str (pa_cons pe_str (pa_cons pe_str pa_nil))))))))))
          (pe_call ET hr1 rfl GT.mg GT.kp bT .nil pass0 (pa_cons (pv 0) (pa_cons pe_int pa_nil))) fun _ _ => rfl))) pss_nil)
      (C8.pss_cut (ps_if (pt_cmpR op_eq (pv 2) pe_int (nomark _)) (pss_one (ps_set (i := 3) scKey.nd rfl (Or.inl rfl) (pe_slice sl_str (pe_op op_add_str (pv 1) pe_str) po_none (po_some pe_int)))) pss_nil)
      (pss_one (ps_ret (pv 3))))))), ?_⟩
    refine ⟨_, rfl, st, cl, m, 8, rfl, S, by omega, by decide, by decide, fun plan H1 p0 p1 S1 k1 => ?_⟩
    refine ⟨_, rfl, st, cl, m + 1, rfl, S1, by omega, fun z H2 hz S2 k2 => ?_⟩
    have hz6 := good_len hz
    have hzs : z.length ≤ sizeLine := Nat.le_of_lt (small1000 (by omega))
    refine ⟨fun σ H' => ∃ (y : Str) (u v : Option V), y.length ≤ 13 ∧ StAt H' st cl (m + 11) ∧ Kb st cl H H' ∧ σ = [some (.ref st), some (.str b), some (.int plan), some (.str y), u, v], ?_, ?_⟩
    · refine ⟨_, rfl, rfl, _, rfl, ?_⟩
      refine ite2 (fun _ => ?_) (fun _ => ?_)
      · refine ⟨rfl, fun sg hsg => ?_⟩
        have hsl : (sg ++ Str.ofString "\n").length = 95 := by rw [len_app, hsg]; rfl
        refine ⟨_, _, rfl, rfl, by rw [← len_app, hsl]; decide, ?_⟩
        refine ⟨_, rfl, _, rfl, _, rfl, hzs, st, cl, _, _, rfl, S2, by omega, by omega, by omega, fun sp H3 q0 q1 S3 k3 => ?_⟩
        refine ⟨_, rfl, _, rfl, sp, rfl, z, rfl, hzs, ?_⟩
        refine ⟨_, rfl, _, rfl, _, rfl, _, rfl, by rw [hsl]; decide, st, cl, _, _, rfl, S3, by omega, by rw [hsl]; decide, by rw [hsl]; decide, fun c H4 c0 c1 S4 k4 => ?_⟩
        have hcl : c.toNat < (sg ++ Str.ofString "\n").cps.toList.length := by
          rw [← Str.len_list, hsl]
          rw [hsl] at c1
          omega
        refine ⟨_, _, _, rfl, rfl, by rw [hsl]; decide, atI_in c0 (List.getElem?_eq_getElem hcl), ?_⟩
        have l1 : (cutS z none (some sp)).length ≤ 6 := Nat.le_trans (cutS_length _ _ _) hz6.1
        have l2 : (cutS z none (some sp) ++ (⟨#[(sg ++ Str.ofString "\n").cps.toList[c.toNat]]⟩ : Str)).length ≤ 7 := by
          rw [len_app]
          have : (⟨#[(sg ++ Str.ofString "\n").cps.toList[c.toNat]]⟩ : Str).length = 1 := rfl
          omega
        refine ⟨_, _, rfl, rfl, by rw [← len_app]; exact Nat.le_of_lt (small1000 (Nat.le_trans l2 (by decide : 7 ≤ 1000))), ?_⟩
        refine ⟨_, rfl, _, rfl, _, _, rfl, rfl, _, rfl, z, rfl, hzs, ?_⟩
        have l3 : (cutS z (some (sp + 1)) none).length ≤ 6 := Nat.le_trans (cutS_length _ _ _) hz6.1
        have l4 := len_app (cutS z none (some sp) ++ (⟨#[(sg ++ Str.ofString "\n").cps.toList[c.toNat]]⟩ : Str)) (cutS z (some (sp + 1)) none)
        refine ⟨_, _, rfl, rfl, Nat.le_of_lt (small1000 (by omega)), ?_⟩
        exact ⟨_, _, _, by omega, S4.mono (by omega), ((k1.trans k2).trans k3).trans k4, rfl⟩
      · exact ⟨z, _, _, by omega, S2.mono (by omega), k1.trans k2, rfl⟩
    rintro σ3 H3 ⟨y, u, v, hy, S3, k3, rfl⟩
    refine ⟨fun σ H' => ∃ (y : Str) (u v : Option V), y.length ≤ 13 ∧ StAt H' st cl (m + 12) ∧ Kb st cl H H' ∧ σ = [some (.ref st), some (.str b), some (.int plan), some (.str y), u, v], ?_, ?_⟩
    · refine ⟨_, rfl, rfl, _, rfl, ?_⟩
      refine ite2 (fun _ => ?_) (fun _ => ?_)
      · refine ⟨by show 9 ≤ sizeLine; decide, fun L hL => ?_⟩
        obtain ⟨L1, L2⟩ := S3.nst hL
        refine ⟨_, rfl, st, cl, _, 9, rfl, S3.upd L1 L2, by omega, by decide, by decide, fun c H4 c0 c1 S4 k4 => ?_⟩
        have hL4 := k4 L _ upd_same L1 L2
        obtain ⟨nm, hnm, hng⟩ : ∃ nm : Str, ([V.str "", V.str "1a", V.str "A", V.str "x y", V.str "abcdefg", V.str "mod", V.str "x_", V.str "-x", V.str "x\n"] : List V)[c.toNat]? = some (V.str nm) ∧ nm.length ≤ 13 := by
          have hc : c.toNat < 9 := by omega
          generalize c.toNat = j at hc
          match j, hc with
          | 0, _ => exact ⟨_, rfl, by decide +kernel⟩
          | 1, _ => exact ⟨_, rfl, by decide +kernel⟩
          | 2, _ => exact ⟨_, rfl, by decide +kernel⟩
          | 3, _ => exact ⟨_, rfl, by decide +kernel⟩
          | 4, _ => exact ⟨_, rfl, by decide +kernel⟩
          | 5, _ => exact ⟨_, rfl, by decide +kernel⟩
          | 6, _ => exact ⟨_, rfl, by decide +kernel⟩
          | 7, _ => exact ⟨_, rfl, by decide +kernel⟩
          | 8, _ => exact ⟨_, rfl, by decide +kernel⟩
        refine ⟨L, _, _, V.str nm, rfl, rfl, SqL.of hL4, atI_in c0 hnm, ?_⟩
        exact ⟨nm, _, _, hng, S4.mono (by omega), (k3.new (S.free S3 k3 hL)).trans k4, rfl⟩
      · exact ⟨y, _, _, hy, S3.mono (by omega), k3, rfl⟩
    rintro σ4 H4 ⟨y, u, v, hy, S4, k4, rfl⟩
    have lb := len_app b (Str.ofString "1")
    have l1 : (Str.ofString "1").length = 1 := rfl
    have lc := cutS_length (b ++ Str.ofString "1") none (some 6)
    refine ⟨fun σ H' => ∃ (y : Str) (u v : Option V), y.length ≤ b.length + 20 ∧ StAt H' st cl (m + 20) ∧ Kb st cl H H' ∧ σ = [some (.ref st), some (.str b), some (.int plan), some (.str y), u, v], ?_, ?_⟩
    · refine ⟨_, rfl, rfl, _, rfl, ?_⟩
      refine ite2 (fun _ => ?_) (fun _ => ?_)
      · refine ⟨_, rfl, _, _, rfl, rfl, Nat.le_of_lt (small1000 (by omega)), _, rfl, _, rfl, Nat.le_of_lt (small1000 (by omega)), ?_⟩
        exact ⟨_, _, _, by omega, S4.mono (by omega), k4, rfl⟩
      · exact ⟨y, _, _, by omega, S4.mono (by omega), k4, rfl⟩
    rintro σ5 H5 ⟨y, u, v, hy, S5, k5, rfl⟩
    exact ⟨_, rfl, k y H5 hy S5 k5⟩
end
end OS
namespace OS
open PySem L2 PySem.Spec PyProof.Rows
section
variable {X : Cx} {e : Expr} {t : TE}
/-- e, its value locked from here on (a new thing that is only walked over) -/
def tFz (t : TE) : TE := fun σ H Q => t σ H fun x H1 => ∃ d u, x = V.ref d ∧ H1 d = some u ∧ Mut (some u) ∧ ∀ od, Q x (L2.upd H1 d (.frz od u))
theorem pe_frz (h : PE X e t) : PE X e (tFz t) := by
  refine ⟨fun pins s σ H Q I hw => ?_⟩
  refine thn (h.run pins s σ H _ I hw) fun v s1 ⟨x, H1, I1, r, d, u, ex, hd, mu, q⟩ => ?_
  obtain ⟨od, I2⟩ := I1.lock hd mu
  exact ⟨x, _, I2, r, q od⟩
end
end OS
namespace OS
open PySem L2
/-! ### rows of a name and a number -/
def RowsAt (H : Hp) : List Addr → Cf → Prop
  | [], [] => True
  | r :: rs, e :: cs => H r = some (.lst [.str e.1, .int e.2]) ∧ RowsAt H rs cs
  | _, _ => False
theorem RowsAt.mono {H H' : Hp} : ∀ {rs : List Addr} {cs : Cf}, RowsAt H rs cs → Same H H' → RowsAt H' rs cs
  | [], [], _, _ => trivial
  | _ :: _, _ :: _, h, s => ⟨s _ _ h.1, RowsAt.mono h.2 s⟩
  | [], _ :: _, h, _ => h.elim
  | _ :: _, [], h, _ => h.elim
theorem RowsAt.but {H H' : Hp} (s : ∀ r (x : Str) (n : Int), H r = some (.lst [.str x, .int n]) → H' r = some (.lst [.str x, .int n])) : ∀ {rs : List Addr} {cs : Cf}, RowsAt H rs cs → RowsAt H' rs cs
  | [], [], _ => trivial
  | _ :: _, _ :: _, h => ⟨s _ _ _ h.1, RowsAt.but s h.2⟩
  | [], _ :: _, h => h.elim
  | _ :: _, [], h => h.elim
theorem rows_put {H : Hp} {T D r : Addr} {x : Str} {n : Int} {rs : List Addr} {o1 o2 : HO} (e : H D = some (.lst (rs.map V.ref))) (hT : H T = none) (h : H r = some (.lst [.str x, .int n])) : (L2.upd (L2.upd H T o1) D o2) r = some (.lst [.str x, .int n]) := by
  have h1 : r ≠ D := by
    intro q
    rw [q, e] at h
    cases rs with
    | nil => cases h
    | cons a l => cases h
  rw [upd_ne h1, upd_ne (ne_of_none h hT)]
  exact h
theorem RowsAt.snoc {H : Hp} {r : Addr} {e : Str × Int} (hr : H r = some (.lst [.str e.1, .int e.2])) : ∀ {rs : List Addr} {cs : Cf}, RowsAt H rs cs → RowsAt H (rs ++ [r]) (cs ++ [e])
  | [], [], _ => ⟨hr, trivial⟩
  | _ :: _, _ :: _, h => ⟨h.1, RowsAt.snoc hr h.2⟩
  | [], _ :: _, h => h.elim
  | _ :: _, [], h => h.elim
theorem RowsAt.length {H : Hp} : ∀ {rs : List Addr} {cs : Cf}, RowsAt H rs cs → rs.length = cs.length
  | [], [], _ => rfl
  | _ :: _, _ :: _, h => congrArg Nat.succ (RowsAt.length h.2)
  | [], _ :: _, h => h.elim
  | _ :: _, [], h => h.elim
def rowsD (cs : Cf) : List PyData := cs.map fun e => .list [.str e.1, .int e.2]
theorem RowsAt.dp {K : PySem.W.Frag} {H : Hp} : ∀ {rs : List Addr} {cs : Cf}, RowsAt H rs cs → DpAll K H (rs.map V.ref) (rowsD cs)
  | [], [], _ => .nil
  | _ :: _, _ :: _, h => .cons (.lst (SqL.of h.1) (.cons (.str _) (.cons (.int _) .nil))) (RowsAt.dp h.2)
  | [], _ :: _, h => h.elim
  | _ :: _, [], h => h.elim
theorem low_lt : ∀ c ∈ lowL.cps.toList, c < 1114112 := by decide +kernel
theorem dig_lt : ∀ c ∈ digL.cps.toList, c < 1114112 := by decide +kernel
theorem good_ok {z : Str} (h : good z = true) : (z.cps.all (· < 0x110000)) = true := by
  unfold good at h
  by_cases h1 : z = "mod"
  · rw [if_pos h1] at h; cases h
  · rw [if_neg h1] at h
    by_cases h2 : z.cps.toList.length < 1 ∨ 6 < z.cps.toList.length
    · rw [if_pos h2] at h; cases h
    · rw [if_neg h2] at h
      by_cases h3 : z.cps.toList.headD 0 ∈ lowL.cps.toList
      · rw [if_pos h3] at h
        rw [← Array.all_toList]
        refine List.all_eq_true.mpr fun c hc => ?_
        have := List.all_eq_true.mp h c hc
        unfold chOk at this
        rw [Bool.or_eq_true, decide_eq_true_eq, decide_eq_true_eq] at this
        rcases this with q | q
        · exact decide_eq_true (low_lt c q)
        · exact decide_eq_true (dig_lt c q)
      · rw [if_neg h3] at h; cases h
theorem rows_lay : ∀ (cs : Cf), (∀ e ∈ cs, good e.1 = true) → PyData.canLayAll0 (rowsD cs) = true ∧ PyData.depthAll (rowsD cs) ≤ 2
  | [], _ => ⟨rfl, by simp [rowsD, PyData.depthAll]⟩
  | e :: cs, h => by
    obtain ⟨h1, h2⟩ := rows_lay cs fun e' he => h e' (List.mem_cons_of_mem _ he)
    have hg : PyData.strOk e.1 = true := good_ok (h e (List.mem_cons_self ..))
    unfold rowsD at h1 h2 ⊢
    refine ⟨?_, ?_⟩
    · simp [PyData.canLay0, PyData.canLayAll0, hg, h1]
    · simp [PyData.depth, PyData.depthAll]
      omega
theorem rows_shaped {cs : Cf} (h : ∀ e ∈ cs, good e.1 = true) : PySem.SeqAt.shaped (.list (rowsD cs)) = true := by
  obtain ⟨h1, h2⟩ := rows_lay cs h
  unfold SeqAt.shaped
  rw [Bool.and_eq_true]
  refine ⟨by simp [PyData.canLay0, h1], decide_eq_true ?_⟩
  simp [PyData.depth]
  omega
end OS
namespace OS
open PySem L2
theorem can_some {cs : Cf} (h : Can cs) {k : Str} : (lookO cs k).isSome = !decide (look cs k = 0) := by
  cases q : lookO cs k with
  | none =>
    have : look cs k = 0 := by unfold look; rw [q]; rfl
    rw [this]; rfl
  | some v =>
    have e : look cs k = v := by unfold look; rw [q]; rfl
    have := h.nz _ (lookO_mem q)
    rw [e, decide_eq_false this]; rfl
def spAgr (C : Addr) : Sp := fun vs H Q _ => ∃ (p g L : Addr) (kvs cs : Cf) (rs : List Addr) (c : Int), vs = [.ref p, .ref g, .ref L, .int c] ∧ FormAt C H p cs c ∧ (∀ d dx, H p = some (.ins C dx (ffl d c)) → d ≠ g) ∧ H g = some (.dK (dk kvs)) ∧ (kvs.map (·.1)).Nodup ∧ kvs.length < 64 ∧ (∀ k, look cs k = look kvs k) ∧
  H L = some (.lst (rs.map V.ref)) ∧ RowsAt H rs cs ∧ ∀ H', Same H H' → Q (.bl true) H'
section
variable {P : Program} {w : World} {K : PySem.W.Frag} {mg : Str → Option Value} {base : Heap}
abbrev nAgr : List Str := ["_law_form", "_law_given", "_law_expected", "_law_offset", "_law_told", "_law_key_here"]
theorem scAgr : FnScope nAgr ["_law_form", "_law_given", "_law_expected", "_law_offset"] (defScope s_agrees) := ⟨rfl, rfl, rfl, by decide +kernel, rfl, by decide +kernel, by decide +kernel⟩
structure Gets (P : Program) (w : World) (K : PySem.W.Frag) (mg : Str → Option Value) (base : Heap) (C : Addr) where
  (fA fB fG fN fL pA pB : Addr)
  (dA dB dG dN dL : FuncData)
  cl : Cls K C
  A : PropOf K C "coefficients" pA fA
  B : PropOf K C "constant" pB fB
  G : Own K C "__getitem__" fG
  N : Own K C "__contains__" fN
  L : Own K C "__len__" fL
  gi : PySem.W.fnIn K fG = true
  EA : FnOk P w K mg base CX0 1 fA dA ["self"] (spCf C)
  EB : FnOk P w K mg base CX0 1 fB dB ["self"] (spCt C)
  EG : FnOk P w K mg base CX0 1 fG dG ["self", "name"] (spGi C)
  EN : FnOk P w K mg base CX0 1 fN dN ["self", "name"] (spCn C)
  EL : FnOk P w K mg base CX0 1 fL dL ["self"] (spLn C)
  bA : Binds K dA ["self"] []
  bB : Binds K dB ["self"] []
  bG : Binds K dG ["self", "name"] []
  bN : Binds K dN ["self", "name"] []
  bL : Binds K dL ["self"] []
theorem ok_agr {f C : Addr} {fd : FuncData} (F : Fun K "_law_agrees" "_law_agrees" s_agrees f fd) (mI : mg "isinstance" = none) (mL : mg "len" = none) (mD : mg "dict" = none) (Z : Gets P w K mg base C) (FT : FTx K mg C) :
    FnOk P w K mg base CX0 3 f fd ["_law_form", "_law_given", "_law_expected", "_law_offset"] (spAgr C) := by
  obtain ⟨fA, fB, fG, fN, fL, pA, pB, dA, dB, dG, dN, dL, cl, A, B, G, N, L, gi, EA, EB, EG, EN, EL, bA, bB, bG, bN, bL⟩ := Z
  refine F.ok scAgr (fun vs H Q E h => ?_) (fun cdv A' outer s H vs Q E hr h => ?_)
  · obtain ⟨p, g, L, kvs, cs, rs, c, rfl, _⟩ := h
    rfl
  · obtain ⟨p, g, L', kvs, cs, rs, c, rfl, FA, hdg, hg, nd, hlen, hlk, hL, hrs, k⟩ := h
    have hu := hu_of hr
    have hr1 : Room 1 _ := hr.mono (by decide)
    have hr2 : Room 2 _ := hr
    refine ⟨_, pss_cons (ps_set (i := 4) scAgr.nd rfl (Or.inr rfl) (pe_prop (pv 0) cl A EA hr2 bA .nil pass0 rfl))
      (pss_cons (ps_if (PW.pt (pw_or (pt_not (pt_val (pe_callB call_isi (by rfl) mI (by decide +kernel) (pa_cons (pv 4) (pa_cons (pe_bltn (v := V.ty "dict") (u := .type "dict") (by rfl) mD (by decide +kernel) rfl) pa_nil)))))
          (pw_or1 (pt_cmpR (op_neD hr.units) (pe_lock (pe_lc (own := [("_law_key_here", 5)]) (g := gName 5) (tt := tYes) rfl scAgr.nd (pi_keys (pv 4)) (blkOk_by (own := [("_law_key_here", 5)]) (N := nAgr) (sc := defScope s_agrees) (by decide +kernel))
            (fun _ _ _ _ _ => pg_name (i := 5) scAgr.nd rfl (Or.inl rfl)) (fun _ _ _ _ _ => pts_nil) (fun _ _ _ _ _ => pe_lst (pa_cons (pv 5) (pa_cons (pe_dget hu (pv 4) (pv 5) (fun _ _ => rfl)) pa_nil))))) (pv 2) (nomark _))))) (pss_one (ps_ret pe_bl)) pss_nil)
      (pss_cons (ps_dput hu (pv 4) pe_str pe_int rfl)
      (pss_cons (ps_if (pt_cmpR (op_neD hr.units) (pe_lc (own := [("_law_key_here", 5)]) (g := gName 5) (tt := tYes) rfl scAgr.nd (pi_keys (pe_frz (pe_prop (pv 0) cl A EA hr2 bA .nil pass0 rfl))) (blkOk_by (own := [("_law_key_here", 5)]) (N := nAgr) (sc := defScope s_agrees) (by decide +kernel))
            (fun _ _ _ _ _ => pg_name (i := 5) scAgr.nd rfl (Or.inl rfl)) (fun _ _ _ _ _ => pts_nil) (fun _ _ _ _ _ => pe_lst (pa_cons (pv 5) (pa_cons (pe_dget hu (pe_prop (pv 0) cl A EA hr2 bA .nil pass0 rfl) (pv 5) (fun _ _ => rfl)) pa_nil)))) (pv 2) (nomark _)) (pss_one (ps_ret pe_bl)) pss_nil)
      (pss_cons (ps_if (PW.pt (pw_or (pt_cmpR op_ne (pe_prop (pv 0) cl B EB hr2 bB .nil pass0 rfl) (pv 3) (nomark _))
          (pw_or1 (pt_cmpR op_ne (pe_callB (call_lenO EL L hr2 bL pass0) (by rfl) mL PySem.boot_len (pa_cons (pv 0) pa_nil)) (pe_callB call_len_seq (by rfl) mL PySem.boot_len (pa_cons (pv 2) pa_nil)) (nomark _))))) (pss_one (ps_ret pe_bl)) pss_nil)
      (pss_cons (ps_lock (ps_for PassesOwn.never rfl (pi_keys (pv 1)) (pg_name (i := 5) scAgr.nd rfl (Or.inl rfl))
        (pss_one (ps_if (PW.pt (pw_or (pt_cmpR op_ne (pe_getO EG G gi hr2 bG pass0 (pv 0) (pv 5)) (pe_dget hu (pv 1) (pv 5) (fun _ _ => rfl)) (nomark _))
          (pw_or1 (pt_cmpR op_ne (pe_cmpR (op_inO EN N hr1 bN pass0) (pv 5) (pv 0) rfl) (pe_cmpR op_ne (pe_dget hu (pv 1) (pv 5) (fun _ _ => rfl)) pe_int (nomark _)) (nomark _))))) (pss_one (ps_ret pe_bl)) pss_nil))))
      (pss_cons (ps_for PassesOwn.never rfl (pi_list (pe_lst (pa_cons pe_str (pa_cons pe_str (pa_cons pe_str pa_nil))))) (pg_name (i := 5) scAgr.nd rfl (Or.inl rfl))
        (pss_one (ps_if (PW.pt (pw_and (pt_cmp (pc_dnotin hu (pv 5) (pv 1))) (pw_and1 (PW.pt (pw_or (pt_cmpR op_ne (pe_getO EG G gi hr2 bG pass0 (pv 0) (pv 5)) pe_int (nomark _)) (pw_or1 (pt_cmpR (op_inO EN N hr1 bN pass0) (pv 5) (pv 0) rfl))))))) (pss_one (ps_ret pe_bl)) pss_nil)))
      (pss_one (ps_ret pe_bl)))))))), ?_⟩
    obtain ⟨d, dx, hp, hd⟩ := FA.ob
    have hgood := FA.gd
    have hcan := FA.can
    have hclen := FA.len
    have nC : (cs.map (·.1)).Nodup := hcan.nd
    have hsh := rows_shaped hgood
    have heqv : PyData.eqv (.list (rowsD cs)) (.list (rowsD cs)) = true := SeqAt.eqv_refl _ (SeqAt.canLay_of_shaped hsh)
    refine ⟨_, rfl, p, dx, _, rfl, hp, p, cs, c, rfl, FA, fun td htd => ?_⟩
    obtain ⟨H1, hH1⟩ : ∃ H1, H1 = L2.upd H td (.dK (dk cs)) := ⟨_, rfl⟩
    have s1 : Same H H1 := by rw [hH1]; exact sameUpd (Same.refl _) htd
    have ht1 : H1 td = some (.dK (dk cs)) := by rw [hH1]; exact upd_same
    rw [← hH1]
    refine ⟨_, rfl, _, _, _, _, true, rfl, .ty "dict", .base (.dK ht1), kit_ty (by decide +kernel), _, rfl, ?_⟩
    refine iteF ?_
    refine ⟨td, _, ht1, trivial, fun od => ?_⟩
    obtain ⟨H2, hH2⟩ : ∃ H2, H2 = L2.upd H1 td (.frz od (.dK (dk cs))) := ⟨_, rfl⟩
    rw [← hH2]
    have ht2 : H2 td = some (.frz od (.dK (dk cs))) := by rw [hH2]; exact upd_same
    have s2 : Same H H2 := by rw [hH2]; exact sameUpd s1 htd
    refine ⟨_, rfl, td, od, rfl, .inl ⟨_, ht2, fun D hD => ?_⟩⟩
    refine lc_it walk_keys (fun i H' => Same H2 H' ∧ ∃ rs', H' D = some (.lst (rs'.map V.ref)) ∧ RowsAt H' rs' (cs.take i)) ⟨sameUpd (Same.refl _) hD, [], by rw [upd_same]; rfl, trivial⟩ (fun i H' _ h => h.1 _ _ ht2) ?_ ?_
    · rintro i x H4 H5 hi ⟨s4, rs', e4, r4⟩ ⟨rfl, k', v', hkv, rfl⟩
      rw [dk_len] at hi
      have he : (dk cs)[i]? = some (Sum.inr (cs[i]).1, V.int (cs[i]).2) := by
        unfold dk
        rw [List.getElem?_map, List.getElem?_eq_getElem hi]
        rfl
      rw [he] at hkv
      cases hkv
      have hget : DGet H5 td (V.str (cs[i]).1) (some (V.int (cs[i]).2)) := by
        have hv : valV (dk cs) (Sum.inr (cs[i]).1 : Key) = some (V.int (cs[i]).2) := by rw [valV_dk, lookO_of_mem nC (k := (cs[i]).1) (v := (cs[i]).2) (List.getElem_mem hi)]; rfl
        rw [← hv]
        exact .inl ⟨dk cs, Sum.inr (cs[i]).1, .inr ⟨od, s4 _ _ ht2⟩, rfl, rfl⟩
      refine ⟨rfl, ?_⟩
      refine ⟨_, rfl, _, rfl, _, rfl, td, _, rfl, hget, by show 2 ≤ sizeLine; decide, fun T hT => ?_⟩
      have sT : Same H5 (L2.upd H5 T (.lst [V.str (cs[i]).1, V.int (cs[i]).2])) := sameUpd (Same.refl _) hT
      have nD : H5 D = some (.lst (rs'.map V.ref)) := e4
      have nTD : T ≠ D := (ne_of_none nD hT).symm
      refine ⟨_, sT _ _ e4, ?_, sameUpd (s4.trans sT) hD, rs' ++ [T], ?_, ?_⟩
      · rw [List.length_map, r4.length, List.length_take]
        exact small1000 (by omega)
      · rw [upd_same, List.map_append]
        rfl
      · rw [List.take_succ, List.getElem?_eq_getElem hi]
        refine RowsAt.snoc (e := cs[i]) ?_ (RowsAt.but ?_ r4)
        · rw [upd_ne nTD, upd_same]
          rfl
        · exact fun r x n hr => rows_put e4 hT hr
    · rintro H4 ⟨s4, rs', e4, r4⟩
      rw [dk_len, List.take_length] at r4
      refine ⟨s4 _ _ ht2, ?_⟩
      have nDt : D ≠ td := (ne_of_none ht2 hD).symm
      obtain ⟨H5, hH5⟩ : ∃ H5, H5 = L2.upd H4 td (.dK (dk cs)) := ⟨_, rfl⟩
      rw [← hH5]
      have s5 : Same H H5 := by rw [hH5]; exact sameUpd (s2.trans s4) htd
      have r5 : RowsAt H5 rs' cs := RowsAt.but (fun r x n hr => by
        rw [hH5, upd_ne (fun e => by rw [e, s4 _ _ ht2] at hr; cases hr)]
        exact hr) r4
      have e5 : H5 D = some (.lst (rs'.map V.ref)) := by rw [hH5, upd_ne nDt]; exact e4
      have ht5 : H5 td = some (.dK (dk cs)) := by rw [hH5]; exact upd_same
      refine ⟨_, rfl, _, _, .lst (SqL.of e5) r5.dp, .lst (SqL.of (s5 _ _ hL)) (hrs.mono s5).dp, hsh, hsh, _, rfl, ?_⟩
      rw [heqv]
      refine iteF ?_
      refine ⟨_, rfl, td, _, rfl, DPut.k (k := Sum.inr (Str.ofString "zz9")) ht5 (by rw [dk_len]; exact small1000 (by omega)), ?_⟩
      obtain ⟨H6, hH6⟩ : ∃ H6, H6 = L2.upd H5 td (.dK (putK (dk cs) (Sum.inr (Str.ofString "zz9")) (V.int 5))) := ⟨_, rfl⟩
      rw [← hH6]
      have s6 : Same H H6 := by rw [hH6]; exact sameUpd s5 htd
      have FA6 := FA.same s6
      -- the second reading
      refine ⟨_, rfl, p, dx, _, rfl, s6 _ _ hp, p, cs, c, rfl, FA6, fun kd hkd => ⟨kd, _, rfl, upd_same, trivial, fun od2 => ?_⟩⟩
      obtain ⟨H7, hH7⟩ : ∃ H7, H7 = L2.upd (L2.upd H6 kd (.dK (dk cs))) kd (.frz od2 (.dK (dk cs))) := ⟨_, rfl⟩
      rw [← hH7]
      have hk7 : H7 kd = some (.frz od2 (.dK (dk cs))) := by rw [hH7]; exact upd_same
      have s7 : Same H H7 := by rw [hH7]; exact sameUpd (sameUpd s6 (s6.free hkd)) (s6.free hkd)
      refine ⟨kd, od2, rfl, .inl ⟨_, hk7, fun D2 hD2 => ?_⟩⟩
      refine lc_it walk_keys (fun i H' => Same H7 H' ∧ ∃ rs', H' D2 = some (.lst (rs'.map V.ref)) ∧ RowsAt H' rs' (cs.take i)) ⟨sameUpd (Same.refl _) hD2, [], by rw [upd_same]; rfl, trivial⟩ (fun i H' _ h => h.1 _ _ hk7) ?_ ?_
      · rintro i x H8 H9 hi ⟨s8, rs2, e8, r8⟩ ⟨rfl, k', v', hkv, rfl⟩
        rw [dk_len] at hi
        have he : (dk cs)[i]? = some (Sum.inr (cs[i]).1, V.int (cs[i]).2) := by
          unfold dk
          rw [List.getElem?_map, List.getElem?_eq_getElem hi]
          rfl
        rw [he] at hkv
        cases hkv
        have s9 := s7.trans s8
        refine ⟨rfl, ?_⟩
        refine ⟨_, rfl, _, rfl, p, dx, _, rfl, s9 _ _ hp, p, cs, c, rfl, FA.same s9, fun q hq => ?_⟩
        have sq : Same H9 (L2.upd H9 q (.dK (dk cs))) := sameUpd (Same.refl _) hq
        have hget : DGet (L2.upd H9 q (.dK (dk cs))) q (V.str (cs[i]).1) (some (V.int (cs[i]).2)) := by
          have hv : valV (dk cs) (Sum.inr (cs[i]).1 : Key) = some (V.int (cs[i]).2) := by rw [valV_dk, lookO_of_mem nC (k := (cs[i]).1) (v := (cs[i]).2) (List.getElem_mem hi)]; rfl
          rw [← hv]
          exact DGet.k (k := Sum.inr (cs[i]).1) upd_same
        refine ⟨_, rfl, q, _, rfl, hget, by show 2 ≤ sizeLine; decide, fun T hT => ?_⟩
        have eq8 := sq _ _ e8
        have nTD : T ≠ D2 := (ne_of_none eq8 hT).symm
        have sT : Same (L2.upd H9 q (.dK (dk cs))) (L2.upd (L2.upd H9 q (.dK (dk cs))) T (.lst [V.str (cs[i]).1, V.int (cs[i]).2])) := sameUpd (Same.refl _) hT
        refine ⟨_, sT _ _ eq8, ?_, sameUpd ((s8.trans sq).trans sT) hD2, rs2 ++ [T], ?_, ?_⟩
        · rw [List.length_map, r8.length, List.length_take]
          exact small1000 (by omega)
        · rw [upd_same, List.map_append]
          rfl
        · rw [List.take_succ, List.getElem?_eq_getElem hi]
          refine RowsAt.snoc (e := cs[i]) ?_ (RowsAt.but ?_ (r8.mono sq))
          · rw [upd_ne nTD, upd_same]
            rfl
          · exact fun r x n hr => rows_put eq8 hT hr
      rintro H8 ⟨s8, rs2, e8, r8⟩
      rw [dk_len, List.take_length] at r8
      have s9 := s7.trans s8
      have FA9 := FA.same s9
      have hp9 := s9 _ _ hp
      refine ⟨_, rfl, _, _, .lst (SqL.of e8) r8.dp, .lst (SqL.of (s9 _ _ hL)) (hrs.mono s9).dp, hsh, hsh, _, rfl, ?_⟩
      rw [heqv]
      refine iteF ?_
      refine ⟨_, rfl, p, dx, _, rfl, hp9, p, cs, c, rfl, FA9, _, rfl, rfl, _, rfl, ?_⟩
      rw [show (!decide (V.int c = V.int c)) = false by simp]
      refine iteF ?_
      refine ⟨_, rfl, p, dx, _, rfl, hp9, p, cs, c, rfl, FA9, ⟨⟨cs.length, rfl, by omega, by omega⟩, ?_⟩⟩
      refine ⟨_, rfl, L', _, rfl, .inl (SqL.of (s9 _ _ hL)), rfl, _, rfl, ?_⟩
      rw [show (!decide (V.int (cs.length : Int) = V.int ((rs.map V.ref).length : Int))) = false by rw [List.length_map, hrs.length]; simp]
      refine iteF ?_
      -- the given names
      refine ⟨g, _, s9 _ _ hg, trivial, fun og => ?_⟩
      obtain ⟨HA, hHA⟩ : ∃ HA, HA = L2.upd H8 g (.frz og (.dK (dk kvs))) := ⟨_, rfl⟩
      rw [← hHA]
      have hgA : HA g = some (.frz og (.dK (dk kvs))) := by rw [hHA]; exact upd_same
      have kA : ∀ b o, H b = some o → b ≠ g → HA b = some o := fun b o e n => by rw [hHA, upd_ne n]; exact s9 _ _ e
      have hdg' : d ≠ g := hdg d dx hp
      have npg : p ≠ g := ne_of hp hg (by intro z; cases z)
      have FAA : ∀ H', Same HA H' → FormAt C H' p cs c := fun H' s => ⟨⟨d, dx, s _ _ (kA _ _ hp npg), s _ _ (kA _ _ hd hdg')⟩, hcan, hclen, hgood⟩
      refine ⟨_, rfl, g, og, rfl, .inl ⟨_, hgA, ?_⟩⟩
      refine for_it walk_keys (fun i σ H' => (∃ v, σ = [some (.ref p), some (.ref g), some (.ref L'), some (.int c), some (.ref td), v]) ∧ H' = HA) ⟨⟨_, rfl⟩, rfl⟩ (fun i σ H' _ h => by rw [h.2]; exact hgA) ?_ ?_
      · rintro i x σ HB HC hi ⟨⟨v, rfl⟩, rfl⟩ ⟨rfl, k', v', hkv, rfl⟩
        rw [dk_len] at hi
        have he : (dk kvs)[i]? = some (Sum.inr (kvs[i]).1, V.int (kvs[i]).2) := by
          unfold dk
          rw [List.getElem?_map, List.getElem?_eq_getElem hi]
          rfl
        rw [he] at hkv
        cases hkv
        have hlo : lookO kvs (kvs[i]).1 = some (kvs[i]).2 := lookO_of_mem nd (k := (kvs[i]).1) (v := (kvs[i]).2) (List.getElem_mem hi)
        have hcs : look cs (kvs[i]).1 = (kvs[i]).2 := by rw [hlk]; unfold look; rw [hlo]; rfl
        have hgget : DGet HC g (V.str (kvs[i]).1) (some (V.int (kvs[i]).2)) := by
          have hv : valV (dk kvs) (Sum.inr (kvs[i]).1 : Key) = some (V.int (kvs[i]).2) := by rw [valV_dk, hlo]; rfl
          rw [← hv]
          exact .inl ⟨dk kvs, Sum.inr (kvs[i]).1, .inr ⟨og, hgA⟩, rfl, rfl⟩
        have FB := FAA _ (Same.refl _)
        have hpA := kA _ _ hp npg
        refine ⟨_, rfl, _, rfl, p, dx, _, rfl, hpA, p, cs, c, _, rfl, FB, ?_⟩
        refine ⟨_, rfl, _, rfl, g, _, rfl, hgget, rfl, _, rfl, ?_⟩
        rw [show (!decide (V.int (look cs (kvs[i]).1) = V.int (kvs[i]).2)) = false by rw [hcs]; simp]
        refine iteF ?_
        refine ⟨_, rfl, _, rfl, p, dx, _, rfl, hpA, p, cs, c, _, rfl, FB, _, rfl, ?_⟩
        refine ⟨_, rfl, _, rfl, g, _, rfl, hgget, rfl, rfl, _, rfl, ?_⟩
        rw [show (!decide (V.bl (id (lookO cs (kvs[i]).1).isSome) = V.bl (!decide (V.int (kvs[i]).2 = V.int 0)))) = false by
          rw [can_some hcan, hcs]
          by_cases z : (kvs[i]).2 = 0
          · rw [z]; simp
          · rw [decide_eq_false z, decide_eq_false (fun q => z (V.int.inj q))]; simp]
        refine iteF ?_
        exact ⟨⟨_, rfl⟩, rfl⟩
      rintro σ HB ⟨⟨v, rfl⟩, rfl⟩
      refine ⟨hgA, ?_⟩
      obtain ⟨HC, hHC⟩ : ∃ HC, HC = L2.upd HB g (.dK (dk kvs)) := ⟨_, rfl⟩
      rw [← hHC]
      have sC : Same H HC := by
        intro b o e
        rw [hHC]
        by_cases q : b = g
        · rw [q, upd_same]
          rw [q, hg] at e
          exact e
        · rw [upd_ne q]
          exact kA _ _ e q
      refine ⟨by show 3 ≤ sizeLine; decide, fun M hM => ?_⟩
      obtain ⟨HD, hHD⟩ : ∃ HD, HD = L2.upd HC M (.lst [V.str (Str.ofString "q"), V.str (Str.ofString "zz9"), V.str (Str.ofString "a0")]) := ⟨_, rfl⟩
      have hMD : HD M = some (.lst [V.str (Str.ofString "q"), V.str (Str.ofString "zz9"), V.str (Str.ofString "a0")]) := by rw [hHD]; exact upd_same
      have sD : Same H HD := by rw [hHD]; exact sameUpd sC (sC.free hM)
      rw [← hHD]
      refine ⟨M, rfl, ⟨_, SqL.of hMD⟩, ?_⟩
      refine for_list (K := K) (a := M) (xs := [V.str (Str.ofString "q"), V.str (Str.ofString "zz9"), V.str (Str.ofString "a0")]) (fun i σ H' => (∃ v, σ = [some (.ref p), some (.ref g), some (.ref L'), some (.int c), some (.ref td), v]) ∧ H' = HD) ⟨⟨_, rfl⟩, rfl⟩ (fun i σ H' _ h => by rw [h.2]; exact SqL.of hMD) ?_ ?_
      · rintro i x σ HE hx ⟨⟨v, rfl⟩, rfl⟩
        obtain ⟨z, rfl⟩ : ∃ z, x = V.str z := by
          match i, hx with
          | 0, h => exact ⟨_, (Option.some.inj h).symm⟩
          | 1, h => exact ⟨_, (Option.some.inj h).symm⟩
          | 2, h => exact ⟨_, (Option.some.inj h).symm⟩
          | _ + 3, h => cases h
        have hgD : HE g = some (.dK (dk kvs)) := sD _ _ hg
        have hgget : DGet HE g (V.str z) ((lookO kvs z).map V.int) := by
          rw [← valV_dk]
          exact DGet.k (k := Sum.inr z) hgD
        have FD := FA.same sD
        refine ⟨_, rfl, _, rfl, g, _, rfl, hgget, _, rfl, ?_⟩
        cases hq : lookO kvs z with
        | some y =>
          refine iteF ?_
          exact ⟨⟨_, rfl⟩, rfl⟩
        | none =>
          refine iteT ?_
          have h0 : look cs z = 0 := by rw [hlk]; unfold look; rw [hq]; rfl
          refine ⟨_, rfl, _, rfl, p, dx, _, rfl, sD _ _ hp, p, cs, c, _, rfl, FD, rfl, _, rfl, ?_⟩
          rw [h0]
          refine iteF ?_
          refine ⟨_, rfl, _, rfl, p, dx, _, rfl, sD _ _ hp, p, cs, c, _, rfl, FD, _, rfl, _, rfl, ?_⟩
          rw [show id (lookO cs z).isSome = false by show (lookO cs z).isSome = false; rw [can_some hcan, h0]; rfl]
          refine iteF ?_
          exact ⟨⟨_, rfl⟩, rfl⟩
      · rintro σ HE ⟨⟨v, rfl⟩, rfl⟩
        exact k HE sD
end
end OS
namespace OS
open PySem L2
def spLaw (K : PySem.W.Frag) : Sp := fun vs H Q _ => ∃ (a : Addr) (ns : List Int), vs = [.ref a] ∧ SqL K H a (ns.map V.int) ∧ ns.length ≤ 63 ∧ ∀ H', Q (.bl true) H'
theorem ffl_inj {d d' : Addr} {c : Int} (h : ffl d c = ffl d' c) : d = d' := by
  have h1 := ffl_cf d c
  rw [h, ffl_cf] at h1
  exact (V.ref.inj (Option.some.inj h1)).symm
section
variable {P : Program} {w : World} {K : PySem.W.Frag} {mg : Str → Option Value} {base : Heap}
abbrev nLaw : List Str := ["_law_script", "_law_state", "_law_given", "_law_before", "_law_k", "_law_offset", "_law_bad", "_law_handed", "_law_kind", "_law_form", "_law_expected", "_law_key_here"]
theorem scLaw : FnScope nLaw ["_law_script"] (defScope sLaw) := ⟨rfl, rfl, rfl, by decide +kernel, rfl, by decide +kernel, by decide +kernel⟩
theorem ok_law {f fS fT fK fI fM fA fG C : Addr} {fd dS dT dK_ dI dM dA dG : FuncData} (F : Fun K "law" "law" sLaw f fd) (mD : mg "dict" = none) (mR : mg "range" = none) (mS : mg "sorted" = none)
    (ES : FnOk P w K mg base CX0 1 fS dS ["_law_script"] (spStart K)) (GS : Df K mg "_law_start" fS) (bS : Binds K dS ["_law_script"] [])
    (ET : FnOk P w K mg base CX0 1 fT dT ["_law_state", "_law_limit"] spTake) (GT : Df K mg "_law_take" fT) (bT : Binds K dT ["_law_state", "_law_limit"] [])
    (EK : FnOk P w K mg base CX0 3 fK dK_ ["_law_state", "_law_before"] spKey) (GK : Df K mg "_law_key" fK) (bK : Binds K dK_ ["_law_state", "_law_before"] [])
    (EI : FnOk P w K mg base CX0 2 fI dI ["_law_state"] spInt) (GI : Df K mg "_law_integer" fI) (bI : Binds K dI ["_law_state"] [])
    (EG : FnOk P w K mg base CX0 1 fG dG ["_law_text"] spValid) (GG : Df K mg "_law_good" fG) (bG : Binds K dG ["_law_text"] [])
    (EM : FnOk P w K mg base CX0 5 fM dM ["_law_handed", "_law_offset", "_law_plan"] (spMade C)) (GM : Df K mg "_law_made" fM) (bM : Binds K dM ["_law_handed", "_law_offset", "_law_plan"] [])
    (EA : FnOk P w K mg base CX0 3 fA dA ["_law_form", "_law_given", "_law_expected", "_law_offset"] (spAgr C)) (GA : Df K mg "_law_agrees" fA) (bA : Binds K dA ["_law_form", "_law_given", "_law_expected", "_law_offset"] []) :
    FnOk P w K mg base CX0 6 f fd ["_law_script"] (spLaw K) := by
  refine F.ok scLaw (fun vs H Q E h => ?_) (fun cdv A outer s H vs Q E hr h => ?_)
  · obtain ⟨a, ns, rfl, _⟩ := h
    rfl
  · obtain ⟨a, ns0, rfl, hS, hn, k⟩ := h
    have hu := hu_of hr
    have hr1 : Room 1 _ := hr.mono (by decide)
    have hr2 : Room 2 _ := hr.mono (by decide)
    have hr3 : Room 3 _ := hr.mono (by decide)
    have hr5 : Room 5 _ := hr
    refine ⟨_, pss_cons (ps_set (i := 1) scLaw.nd rfl (Or.inl rfl) (pe_call ES hr1 rfl GS.mg GS.kp bS .nil pass0 (pa_cons (pv 0) pa_nil)))
      (pss_cons (ps_set (i := 2) scLaw.nd rfl (Or.inr rfl) pe_dnewK)
      (pss_cons (ps_set (i := 3) scLaw.nd rfl (Or.inl rfl) pe_str)
      (pss_cons (ps_for PassesOwn.never rfl (pi_range1 rfl mR (pa_cons (pe_call ET hr1 rfl GT.mg GT.kp bT .nil pass0 (pa_cons (pv 1) (pa_cons pe_int pa_nil))) pa_nil)) (pg_name (i := 4) scLaw.nd rfl (Or.inl rfl))
        (pss_cons (ps_set (i := 3) scLaw.nd rfl (Or.inl rfl) (pe_call EK hr3 rfl GK.mg GK.kp bK .nil pass0 (pa_cons (pv 1) (pa_cons (pv 3) pa_nil))))
        (pss_one (ps_dput hu (pv 2) (pv 3) (pe_call EI hr2 rfl GI.mg GI.kp bI .nil pass0 (pa_cons (pv 1) pa_nil)) rfl))))
      (pss_cons (ps_set (i := 5) scLaw.nd rfl (Or.inl rfl) (pe_call EI hr2 rfl GI.mg GI.kp bI .nil pass0 (pa_cons (pv 1) pa_nil)))
      (pss_cons (ps_lock (ps_setLc (i := 6) (own := [("_law_key_here", 11)]) (g := gName 11) rfl scLaw.nd rfl rfl (sw_true rfl rfl rfl (by decide +kernel)) (pi_keys (pv 2)) (blkOk_by (own := [("_law_key_here", 11)]) (N := nLaw) (sc := defScope sLaw) (by decide +kernel))
          (fun _ _ _ _ _ => pg_name (i := 11) scLaw.nd rfl (Or.inl rfl)) (fun _ _ _ _ _ => pts_one (pt_not (pt_val (pe_call EG hr1 rfl GG.mg GG.kp bG .nil pass0 (pa_cons (pv 11) pa_nil))))) (fun _ _ _ _ _ => pv 11)))
      (pss_cons (ps_set (i := 7) scLaw.nd rfl (Or.inl rfl) (pe_callTy call_dictD (by rfl) mD (by decide +kernel) (pa_cons (pv 2) pa_nil)))
      (pss_cons (ps_asg (pe_call EM hr5 rfl GM.mg GM.kp bM .nil pass0 (pa_cons (pv 7) (pa_cons (pv 5) (pa_cons (pe_call ET hr1 rfl GT.mg GT.kp bT .nil pass0 (pa_cons (pv 1) (pa_cons pe_int pa_nil))) pa_nil))))
          (pg_tup rfl (pgs_cons (pg_name (i := 8) scLaw.nd rfl (Or.inl rfl)) (pgs_cons (pg_name (i := 9) scLaw.nd rfl (Or.inl rfl)) pgs_nil))))
      (pss_cons (ps_if (pt_truth (pv 6) (by intro _; rfl)) (pss_one (ps_ret (pe_and (pe_cmpR op_eq (pv 8) pe_str (nomark _)) (pe_one (pe_cmpR op_eq (pv 9) (pe_ix ix_list (pv 6) pe_int fun _ _ => rfl) (nomark _)))))) pss_nil)
      (pss_cons (ps_if (PW.pt (pw_or (pt_cmpR op_ne (pv 8) pe_str (nomark _)) (pw_or1 (pt_cmpR (op_ne_dictA hr.units0) (pv 7) (pv 2) (nomark _))))) (pss_one (ps_ret pe_bl)) pss_nil)
      (pss_cons (ps_expr (pe_dclear (pv 7)))
      (pss_cons (ps_dput hu (pv 7) pe_str pe_int rfl)
      (pss_cons (ps_setLc (i := 10) (own := [("_law_key_here", 11)]) (g := gName 11) rfl scLaw.nd rfl rfl (sw_true rfl rfl rfl (by decide +kernel)) (pi_list (pe_callB (call_sortedD rfl) (by rfl) mS (by decide +kernel) (pa_cons (pv 2) pa_nil))) (blkOk_by (own := [("_law_key_here", 11)]) (N := nLaw) (sc := defScope sLaw) (by decide +kernel))
          (fun _ _ _ _ _ => pg_name (i := 11) scLaw.nd rfl (Or.inl rfl)) (fun _ _ _ _ _ => pts_one (pt_cmpR op_ne (pe_dget hu (pv 2) (pv 11) (fun _ _ => rfl)) pe_int (nomark _))) (fun _ _ _ _ _ => pe_lst (pa_cons (pv 11) (pa_cons (pe_dget hu (pv 2) (pv 11) (fun _ _ => rfl)) pa_nil))))
      (pss_one (ps_ret (pe_and (pe_call EA hr3 rfl GA.mg GA.kp bA .nil pass0 (pa_cons (pv 9) (pa_cons (pv 2) (pa_cons (pv 10) (pa_cons (pv 5) pa_nil))))) (pe_one (pe_call EA hr3 rfl GA.mg GA.kp bA .nil pass0 (pa_cons (pv 9) (pa_cons (pv 2) (pa_cons (pv 10) (pa_cons (pv 5) pa_nil))))))))))))))))))))), ?_⟩
    refine ⟨_, rfl, a, ns0, rfl, hS, hn, fun st cl H1 S1 s1 _ _ => ?_⟩
    intro g hg
    obtain ⟨g1, g2⟩ := S1.nst hg
    have S2 : StAt (L2.upd H1 g (.dK [])) st cl 0 := S1.upd g1 g2
    refine ⟨_, rfl, st, cl, 0, 7, rfl, S2, by decide, by decide, by decide, fun size H2 z0 z1 S3 k3 => ?_⟩
    have hg2 : H2 g = some (.dK []) := k3 g _ upd_same g1 g2
    refine ⟨_, rfl, by omega, by omega, for_range (lo := 0) (n := size.toNat) (fun i σ H' => ∃ (kvs : Cf) (b : Str) (v : Option V), σ = [some (.ref a), some (.ref st), some (.ref g), some (.str b), v, none, none, none, none, none, none, none] ∧ H' g = some (.dK (dk kvs)) ∧ (kvs.map (·.1)).Nodup ∧ kvs.length ≤ i ∧ (∀ e ∈ kvs, e.1.length ≤ 900) ∧ b.length ≤ 1 + 20 * i ∧ StAt H' st cl (1 + 30 * i))
      ⟨[], "a", none, rfl, hg2, List.nodup_nil, Nat.le_refl _, (fun e he => by cases he), by decide +kernel, S3⟩ ?_ ?_⟩
    · rintro i σ H3 hi ⟨kvs, b, v, rfl, hg3, nd, hl, hs, hb, S4⟩
      have hi7 : i < 7 := by omega
      refine ⟨_, rfl, _, rfl, st, cl, _, b, rfl, S4, by omega, by omega, fun z H4 hz S5 k5 => ?_⟩
      have hg4 := k5 g _ hg3 g1 g2
      refine ⟨_, rfl, st, cl, _, rfl, S5, by omega, fun n H5 hn S6 k6 => ?_⟩
      have hg5 := k6 g _ hg4 g1 g2
      refine ⟨_, rfl, _, rfl, g, _, rfl, DPut.k (k := Sum.inr z) hg5 (by rw [dk_len]; exact small1000 (by omega)), ?_⟩
      refine ⟨putC kvs z n, z, _, rfl, ?_, putC_nd nd, ?_, ?_, by omega, (S6.upd g1 g2).mono (by omega)⟩
      · rw [upd_same, dk_put]
      · have := putC_len kvs z n
        omega
      · intro e he
        rcases putC_mem he with q | q
        · rw [q]
          show z.length ≤ 900
          omega
        · exact hs e q
    rintro σ H3 ⟨kvs, b, v, rfl, hg3, nd, hl, hs, hb, S4⟩
    have hsz : size.toNat ≤ 6 := by omega
    refine ⟨_, rfl, st, cl, _, rfl, S4, by omega, fun c H4 hc S5 k5 => ?_⟩
    have hg4 := k5 g _ hg3 g1 g2
    -- the keys that are no names
    refine ⟨g, _, hg4, trivial, fun og => ?_⟩
    obtain ⟨H5, hH5⟩ : ∃ H5, H5 = L2.upd H4 g (.frz og (.dK (dk kvs))) := ⟨_, rfl⟩
    rw [← hH5]
    have hg5 : H5 g = some (.frz og (.dK (dk kvs))) := by rw [hH5]; exact upd_same
    have k5' : ∀ b o, H4 b = some o → b ≠ g → H5 b = some o := fun b o e n => by rw [hH5, upd_ne n]; exact e
    refine ⟨_, rfl, g, og, rfl, .inl ⟨_, hg5, fun B hB => ?_⟩⟩
    refine lc_it walk_keys (fun i H' => Same H5 H' ∧ H' B = some (.lst ((((kvs.take i).map (·.1)).filter fun z => !good z).map V.str))) ⟨sameUpd (Same.refl _) hB, by rw [upd_same]; rfl⟩ (fun i H' _ h => h.1 _ _ hg5) ?_ ?_
    · rintro i x H6 H7 hi ⟨s6, e6⟩ ⟨rfl, k', v', hkv, rfl⟩
      rw [dk_len] at hi
      have he : (dk kvs)[i]? = some (Sum.inr (kvs[i]).1, V.int (kvs[i]).2) := by
        unfold dk
        rw [List.getElem?_map, List.getElem?_eq_getElem hi]
        rfl
      rw [he] at hkv
      cases hkv
      have htk : kvs.take (i + 1) = kvs.take i ++ [kvs[i]] := by rw [List.take_succ, List.getElem?_eq_getElem hi]; rfl
      have hsl : ((((kvs.take i).map (·.1)).filter fun z => !good z).map V.str).length < sizeLine := by
        rw [List.length_map]
        refine small1000 (Nat.le_trans (List.length_filter_le _ _) ?_)
        rw [List.length_map, List.length_take]
        omega
      refine ⟨rfl, ?_⟩
      refine ⟨_, rfl, _, rfl, Nat.le_trans (hs _ (List.getElem_mem hi)) (by decide), fun H8 s8 => ?_⟩
      refine ⟨_, rfl, ?_⟩
      cases hg : good (kvs[i]).1 with
      | true =>
        refine iteF ?_
        refine ⟨s6.trans s8, ?_⟩
        rw [htk, List.map_append, List.filter_append, s8 _ _ e6]
        simp [hg]
      | false =>
        refine iteT ?_
        refine ⟨_, rfl, _, s8 _ _ e6, hsl, sameUpd (s6.trans s8) hB, ?_⟩
        rw [upd_same, htk, List.map_append, List.filter_append]
        simp [hg, kV]
    rintro H6 ⟨s6, e6⟩
    rw [dk_len, List.take_length] at e6
    refine ⟨s6 _ _ hg5, ?_⟩
    have nBg : B ≠ g := (ne_of_none hg5 hB).symm
    obtain ⟨H7, hH7⟩ : ∃ H7, H7 = L2.upd H6 g (.dK (dk kvs)) := ⟨_, rfl⟩
    rw [← hH7]
    have hg7 : H7 g = some (.dK (dk kvs)) := by rw [hH7]; exact upd_same
    have s7 : Same H4 H7 := by
      intro b o e
      rw [hH7]
      by_cases q : b = g
      · rw [q, upd_same]
        rw [q, hg4] at e
        exact e
      · rw [upd_ne q]
        exact s6 _ _ (k5' _ _ e q)
    have S7 := S5.same s7
    have e7 : H7 B = some (.lst (((kvs.map (·.1)).filter fun z => !good z).map V.str)) := by rw [hH7, upd_ne nBg]; exact e6
    refine ⟨_, rfl, g, dk kvs, rfl, Rd.of hg7, fun hd nhd => ?_⟩
    obtain ⟨H8, hH8⟩ : ∃ H8, H8 = L2.upd H7 hd (.dK (dk kvs)) := ⟨_, rfl⟩
    have hd8 : H8 hd = some (.dK (dk kvs)) := by rw [hH8]; exact upd_same
    have s8 : Same H7 H8 := by rw [hH8]; exact sameUpd (Same.refl _) nhd
    rw [← hH8]
    have S8 := S7.same s8
    have ghd : g ≠ hd := ne_of_none hg7 nhd
    obtain ⟨B1, B2⟩ := S5.nst (show H4 B = none by
      cases q : H4 B with
      | none => rfl
      | some o =>
        rw [k5' B o q nBg] at hB
        cases hB)
    obtain ⟨hd1, hd2⟩ := S7.nst nhd
    refine ⟨_, rfl, _, rfl, _, rfl, st, cl, _, 4, rfl, S8, by omega, by decide, by decide, fun plan H9 p0 p1 S9 k9 => ?_⟩
    have hd9 := k9 hd _ hd8 hd1 hd2
    have hg9 := k9 g _ (s8 _ _ hg7) g1 g2
    have e9 := k9 B _ (s8 _ _ e7) B1 B2
    refine ⟨hd, kvs, c, plan, rfl, hd9, nd, by omega, fun e he => Nat.le_trans (hs e he) (by decide), fun hgd T p cs H10 nT hT hlk FA hff s10 => ?_, fun n hn T H10 hT hk => ?_⟩
    rotate_left
    · refine ⟨T, _, rfl, .inl (.inl hT), rfl, _, _, rfl, _, _, rfl, rfl, ?_⟩
      have e10 := hk B _ e9 (ne_of e9 hd9 (by intro z; cases z))
      obtain ⟨r, hr⟩ : ∃ r, ((kvs.map (·.1)).filter fun z => !good z) = n :: r := by
        have h1 : ((kvs.map (·.1)).filter fun z => !good z).head? = some n := by rw [List.head?_filter]; exact hn
        cases q : ((kvs.map (·.1)).filter fun z => !good z) with
        | nil => rw [q] at h1; cases h1
        | cons x r => rw [q] at h1; cases h1; exact ⟨r, rfl⟩
      rw [hr] at e10
      refine ⟨_, rfl, _, .inl ⟨_, SqL.of e10, rfl⟩, ?_⟩
      refine iteT ?_
      refine ⟨_, rfl, rfl, _, rfl, ?_⟩
      refine iteT ?_
      refine ⟨_, rfl, _, rfl, B, _, _, V.str n, rfl, rfl, SqL.of e10, atI_nat (j := 0) rfl, rfl, ?_⟩
      rw [show decide (V.str n = V.str n) = true by simp]
      exact k _
    refine ⟨T, _, rfl, .inl (.inl hT), rfl, _, _, rfl, _, _, rfl, rfl, ?_⟩
    have e10 := s10 _ _ e9
    have hB0 : ((kvs.map (·.1)).filter fun z => !good z) = [] := by
      refine List.filter_eq_nil_iff.mpr fun x hx => ?_
      obtain ⟨e, he, rfl⟩ := List.mem_map.mp hx
      simp [hgd e he]
    rw [hB0] at e10
    refine ⟨_, rfl, _, .inl ⟨_, SqL.of e10, rfl⟩, ?_⟩
    refine iteF ?_
    refine ⟨_, rfl, rfl, _, rfl, ?_⟩
    refine iteF ?_
    have hd10 := s10 _ _ hd9
    have hg10 := s10 _ _ hg9
    refine ⟨_, rfl, _, rfl, hd, g, dk kvs, dk kvs, rfl, rfl, hd10, hg10, rfl, ?_, _, rfl, ?_⟩
    · intro q hq
      obtain ⟨e, he, rfl⟩ := List.mem_map.mp hq
      refine ⟨?_, rfl⟩
      show valV (dk kvs) (Sum.inr e.1 : Key) = some (V.int e.2)
      rw [valV_dk, lookO_of_mem nd (k := e.1) (v := e.2) he]
      rfl
    refine iteF ?_
    refine ⟨_, rfl, .inr (.inr (.inl ⟨rfl, .inl ⟨_, hd10⟩⟩)), hd, _, rfl, rfl, hd10, ?_⟩
    refine ⟨_, rfl, hd, _, rfl, DPut.k (k := Sum.inr (Str.ofString "a")) upd_same (by decide), ?_⟩
    obtain ⟨H11, hH11⟩ : ∃ H11, H11 = L2.upd (L2.upd H10 hd (.dK [])) hd (.dK (putK [] (Sum.inr (Str.ofString "a")) (V.int 7))) := ⟨_, rfl⟩
    rw [← hH11]
    have k11 : ∀ b o, H10 b = some o → b ≠ hd → H11 b = some o := fun b o e n => by rw [hH11, upd_ne n, upd_ne n]; exact e
    have hg11 := k11 _ _ hg10 ghd
    obtain ⟨d', dx', hp', hd', nd'⟩ := hff
    have ndh : d' ≠ hd := (ne_of_none hd9 nd').symm
    have ndg : d' ≠ g := (ne_of_none hg9 nd').symm
    have nph : p ≠ hd := ne_of hp' hd10 (by intro z; cases z)
    have FA11 : FormAt C H11 p cs c := ⟨⟨d', dx', k11 _ _ hp' nph, k11 _ _ hd' ndh⟩, FA.can, FA.len, FA.gd⟩
    -- the expected rows
    refine ⟨_, rfl, g, dk kvs, kvs.map (·.1), rfl, Rd.of hg11, ?_, by rw [List.length_map]; omega, fun ys l perm srt hl => ?_⟩
    · unfold dk
      rw [List.map_map, List.map_map]
      rfl
    have ynd : ys.Nodup := perm.nodup_iff.mpr nd
    have yasc : Asc ys := sorted_asc srt ynd
    have ylen : ys.length < 64 := by rw [perm.length_eq, List.length_map]; omega
    obtain ⟨H12, hH12⟩ : ∃ H12, H12 = L2.upd H11 l (.lst (ys.map V.str)) := ⟨_, rfl⟩
    have s12 : Same H11 H12 := by rw [hH12]; exact sameUpd (Same.refl _) hl
    have hl12 : H12 l = some (.lst (ys.map V.str)) := by rw [hH12]; exact upd_same
    rw [← hH12]
    have hpk : cs = pick (look kvs) ys := FA.can.unique (pick_can yasc) fun x => by
      rw [hlk, pick_look yasc]
      intro q hq
      refine perm.mem_iff.mpr ?_
      cases Classical.em (q ∈ kvs.map (·.1)) with
      | inl z => exact z
      | inr z => exact absurd (look_none z) hq
    refine ⟨l, rfl, ⟨_, SqL.of hl12⟩, fun D hD => ?_⟩
    refine lc_list (K := K) (a := l) (xs := ys.map V.str) (fun i H' => Same H12 H' ∧ ∃ rs, H' D = some (.lst (rs.map V.ref)) ∧ RowsAt H' rs (pick (look kvs) (ys.take i))) ⟨sameUpd (Same.refl _) hD, [], by rw [upd_same]; rfl, trivial⟩ (fun i H' _ h => SqL.of (h.1 _ _ hl12)) ?_ ?_
    · rintro i x H13 hx ⟨s13, rs, e13, r13⟩
      rw [List.getElem?_map] at hx
      cases hyi : ys[i]? with
      | none => rw [hyi] at hx; cases hx
      | some y =>
        rw [hyi] at hx
        obtain rfl : V.str y = x := Option.some.inj hx
        have hmem : y ∈ ys := List.mem_of_getElem? hyi
        have hg13 : H13 g = some (.dK (dk kvs)) := s13 _ _ (s12 _ _ hg11)
        have hlo : lookO kvs y = some (look kvs y) := by
          have : y ∈ kvs.map (·.1) := perm.mem_iff.mp hmem
          cases q : lookO kvs y with
          | none => exact absurd this (lookO_none.mp q)
          | some z => unfold look; rw [q]; rfl
        have hgt : DGet H13 g (V.str y) (some (V.int (look kvs y))) := by
          have hv : valV (dk kvs) (Sum.inr y : Key) = some (V.int (look kvs y)) := by rw [valV_dk, hlo]; rfl
          rw [← hv]
          exact DGet.k (k := Sum.inr y) hg13
        have htk : ys.take (i + 1) = ys.take i ++ [y] := by rw [List.take_succ, hyi]; rfl
        refine ⟨rfl, ?_⟩
        refine ⟨_, rfl, _, rfl, g, _, rfl, hgt, rfl, _, rfl, ?_⟩
        by_cases hz : look kvs y = 0
        · rw [show (!decide (V.int (look kvs y) = V.int 0)) = false by rw [hz]; simp]
          refine iteF ?_
          refine ⟨s13, rs, e13, ?_⟩
          rw [htk, pick_snoc, if_neg (fun z => z hz)]
          exact r13
        · rw [show (!decide (V.int (look kvs y) = V.int 0)) = true by rw [decide_eq_false (fun z => hz (V.int.inj z))]; rfl]
          refine iteT ?_
          refine ⟨_, rfl, _, rfl, _, rfl, g, _, rfl, hgt, by show 2 ≤ sizeLine; decide, fun T' hT' => ?_⟩
          have sT : Same H13 (L2.upd H13 T' (.lst [V.str y, V.int (look kvs y)])) := sameUpd (Same.refl _) hT'
          have nTD : T' ≠ D := (ne_of_none e13 hT').symm
          refine ⟨_, sT _ _ e13, ?_, sameUpd (s13.trans sT) hD, rs ++ [T'], ?_, ?_⟩
          · rw [List.length_map, r13.length]
            have h1 : (pick (look kvs) (ys.take i)).length ≤ ys.length := by
              unfold pick
              rw [List.length_map]
              exact Nat.le_trans (List.length_filter_le _ _) (by rw [List.length_take]; exact Nat.min_le_right _ _)
            exact small1000 (by omega)
          · rw [upd_same, List.map_append]
            rfl
          · rw [htk, pick_snoc, if_pos hz]
            refine RowsAt.snoc (e := (y, look kvs y)) ?_ (RowsAt.but ?_ r13)
            · rw [upd_ne nTD, upd_same]
            · exact fun r x n hr => rows_put e13 hT' hr
    · rintro H13 ⟨s13, rs, e13, r13⟩
      rw [List.length_map, List.take_length, ← hpk] at r13
      have s14 := s12.trans s13
      have FA14 := FA11.same s14
      have hp14 := s14 _ _ (k11 _ _ hp' nph)
      have hdg : ∀ d dx, H13 p = some (.ins C dx (ffl d c)) → d ≠ g := by
        intro d dx e
        rw [hp14] at e
        have := (HO.ins.inj (Option.some.inj e)).2.2
        rw [← ffl_inj this]
        exact ndg
      have hg14 := s14 _ _ hg11
      refine ⟨_, rfl, _, rfl, _, rfl, _, rfl, p, g, D, kvs, cs, rs, c, rfl, FA14, hdg, hg14, nd, by omega, hlk, e13, r13, fun H15 s15 => ?_⟩
      refine ⟨_, rfl, ?_⟩
      refine iteT ?_
      exact ⟨_, rfl, _, rfl, _, rfl, _, rfl, p, g, D, kvs, cs, rs, c, rfl, FA14.same s15, (fun d dx e => hdg d dx (by rw [hp14]; rw [s15 _ _ hp14] at e; exact e)), s15 _ _ hg14, nd, by omega, hlk, s15 _ _ e13, r13.mono s15, fun H16 _ => k H16⟩
end
end OS
namespace OS
open PySem L2
theorem all_mk {l : PySem.W.OpenLaw} {w : World} {K : PySem.W.Frag} {h : Heap} {mg : Str → Option Value} {fa C f1 f2 f3 f4 f5 f6 f7 f8 f9 f10 f11 f12 f13 f14 f15 f16 f17 : Addr} (X : K.In h) (G : h.Ns mainGlobals mg) (hfa : mg "law" = some (.ref fa))
    {od1 an1 od2 an2 od3 an3 od4 an4 od5 an5 od6 an6 od7 an7 od8 an8 od9 an9 od10 an10 od11 an11 od12 an12 od13 an13 od14 an14 od15 an15 od16 an16 od17 an17 : Option Addr} {sl1 sl2 sl3 sl4 sl5 sl6 sl7 sl8 sl9 sl10 sl11 sl12 sl13 sl14 sl15 sl16 sl17 : Array (Option Value)} {oc1 kV1 dc1 pm1 cd1 ct1 oc2 kV2 dc2 pm2 cd2 ct2 oc3 kV3 dc3 pm3 cd3 ct3 oc4 kV4 dc4 pm4 cd4 ct4 oc5 kV5 dc5 pm5 cd5 ct5 oc6 kV6 dc6 pm6 cd6 ct6 oc7 kV7 dc7 pm7 cd7 ct7 oc8 kV8 dc8 pm8 cd8 ct8 oc9 kV9 dc9 pm9 cd9 ct9 oc10 kV10 dc10 pm10 cd10 ct10 oc11 kV11 dc11 pm11 cd11 ct11 oc12 kV12 dc12 pm12 cd12 ct12 oc13 kV13 dc13 pm13 cd13 ct13 oc14 kV14 dc14 pm14 cd14 ct14 oc15 kV15 dc15 pm15 cd15 ct15 oc16 kV16 dc16 pm16 cd16 ct16 oc17 kV17 dc17 pm17 cd17 ct17 : Value} {t1 t2 t3 t4 : Tok} {CU fU : Addr} {odU anU : Option Addr} {slU : Array (Option Value)} {ocU kVU dcU pmU cdU ctU : Value} {nmU qU : Str} {NU : Addr} {bsU : List Value} {snU : List Str} {subU : List Value} {abU : Bool} {colU : Option Bool} {ddU : Option Addr} {k0U k1U k2U k3U k5U : Option Value} {ONE : Addr} {T11 : Addr} {ocT11 : Value} {odT11 : Option Addr} {nT11 : Nat} {slT11 : Array (Option Value)} {tT11 : Tok} {p12 : Addr} {rest12 : List Value} {p13 : Addr} {rest13 : List Value}
    (aC : PySem.W.nsIn K mainGlobals "Form" = some (some (.ref C)))
    (aU : PySem.W.nsIn K mainGlobals "BadName" = some (some (.ref CU)))
    (aO : PySem.W.nsIn K mainGlobals "OneshardError" = some (some (.ref ONE)))
    (a1 : PySem.W.nsIn K mainGlobals "_law_start" = some (some (.ref f1)))
    (l1 : K.lookup f1 = some ⟨oc1, od1, .func (PySem.W.fnOf "_law_start" "_law_start" (defArgs sStart) (defBody sStart) (defScope sStart) .none kV1 dc1 pm1 an1 cd1 ct1), sl1⟩)
    (c1 : PySem.W.codeIn K cd1 "_law_start" = true)
    (k1 : PySem.W.keepIn K (.ref f1) = true)
    (a2 : PySem.W.nsIn K mainGlobals "_law_take" = some (some (.ref f2)))
    (l2 : K.lookup f2 = some ⟨oc2, od2, .func (PySem.W.fnOf "_law_take" "_law_take" (defArgs sTake) (defBody sTake) (defScope sTake) .none kV2 dc2 pm2 an2 cd2 ct2), sl2⟩)
    (c2 : PySem.W.codeIn K cd2 "_law_take" = true)
    (k2 : PySem.W.keepIn K (.ref f2) = true)
    (a3 : PySem.W.nsIn K mainGlobals "_law_signs" = some (some (.ref f3)))
    (l3 : K.lookup f3 = some ⟨oc3, od3, .func (PySem.W.fnOf "_law_signs" "_law_signs" (defArgs sSigns) (defBody sSigns) (defScope sSigns) .none kV3 dc3 pm3 an3 cd3 ct3), sl3⟩)
    (c3 : PySem.W.codeIn K cd3 "_law_signs" = true)
    (k3 : PySem.W.keepIn K (.ref f3) = true)
    (a4 : PySem.W.nsIn K mainGlobals "_law_good" = some (some (.ref f4)))
    (l4 : K.lookup f4 = some ⟨oc4, od4, .func (PySem.W.fnOf "_law_good" "_law_good" (defArgs sGood) (defBody sGood) (defScope sGood) .none kV4 dc4 pm4 an4 cd4 ct4), sl4⟩)
    (c4 : PySem.W.codeIn K cd4 "_law_good" = true)
    (k4 : PySem.W.keepIn K (.ref f4) = true)
    (a5 : PySem.W.nsIn K mainGlobals "_law_name" = some (some (.ref f5)))
    (l5 : K.lookup f5 = some ⟨oc5, od5, .func (PySem.W.fnOf "_law_name" "_law_name" (defArgs s_name) (defBody s_name) (defScope s_name) .none kV5 dc5 pm5 an5 cd5 ct5), sl5⟩)
    (c5 : PySem.W.codeIn K cd5 "_law_name" = true)
    (k5 : PySem.W.keepIn K (.ref f5) = true)
    (a6 : PySem.W.nsIn K mainGlobals "_law_integer" = some (some (.ref f6)))
    (l6 : K.lookup f6 = some ⟨oc6, od6, .func (PySem.W.fnOf "_law_integer" "_law_integer" (defArgs s_integer) (defBody s_integer) (defScope s_integer) .none kV6 dc6 pm6 an6 cd6 ct6), sl6⟩)
    (c6 : PySem.W.codeIn K cd6 "_law_integer" = true)
    (k6 : PySem.W.keepIn K (.ref f6) = true)
    (a7 : PySem.W.nsIn K mainGlobals "_law_key" = some (some (.ref f7)))
    (l7 : K.lookup f7 = some ⟨oc7, od7, .func (PySem.W.fnOf "_law_key" "_law_key" (defArgs s_key) (defBody s_key) (defScope s_key) .none kV7 dc7 pm7 an7 cd7 ct7), sl7⟩)
    (c7 : PySem.W.codeIn K cd7 "_law_key" = true)
    (k7 : PySem.W.keepIn K (.ref f7) = true)
    (a8 : PySem.W.nsIn K mainGlobals "_law_agrees" = some (some (.ref f8)))
    (l8 : K.lookup f8 = some ⟨oc8, od8, .func (PySem.W.fnOf "_law_agrees" "_law_agrees" (defArgs s_agrees) (defBody s_agrees) (defScope s_agrees) .none kV8 dc8 pm8 an8 cd8 ct8), sl8⟩)
    (c8 : PySem.W.codeIn K cd8 "_law_agrees" = true)
    (k8 : PySem.W.keepIn K (.ref f8) = true)
    (a9 : PySem.W.nsIn K mainGlobals "_law_made" = some (some (.ref f9)))
    (l9 : K.lookup f9 = some ⟨oc9, od9, .func (PySem.W.fnOf "_law_made" "_law_made" (defArgs s_made) (defBody s_made) (defScope s_made) .none kV9 dc9 pm9 an9 cd9 ct9), sl9⟩)
    (c9 : PySem.W.codeIn K cd9 "_law_made" = true)
    (k9 : PySem.W.keepIn K (.ref f9) = true)
    (a10 : PySem.W.nsIn K mainGlobals "valid_name" = some (some (.ref f10)))
    (l10 : K.lookup f10 = some ⟨oc10, od10, .func (PySem.W.fnOf "valid_name" "valid_name" (defArgs sValid) (defBody sValid) (defScope sValid) .none kV10 dc10 pm10 an10 cd10 ct10), sl10⟩)
    (c10 : PySem.W.codeIn K cd10 "valid_name" = true)
    (k10 : PySem.W.keepIn K (.ref f10) = true)
    (a11 : PySem.W.findIn K (.ref C) "__init__" = some (some (.ref f11)))
    (i11 : PySem.W.isFn K (.ref f11) = true)
    (l11 : K.lookup f11 = some ⟨oc11, od11, .func (PySem.W.fnOf "__init__" "Form.__init__" (defArgs sForm_init) (defBody sForm_init) (defScope sForm_init) (.ref T11) kV11 dc11 pm11 an11 cd11 ct11), sl11⟩)
    (lT11 : K.lookup T11 = some ⟨ocT11, odT11, .seq #[.int 0 tT11] nT11, slT11⟩)
    (c11 : PySem.W.codeIn K cd11 "Form.__init__" = true)
    (k11 : PySem.W.keepIn K (.ref f11) = true)
    (a12 : PySem.W.findIn K (.ref C) "coefficients" = some (some (.ref p12)))
    (g12 : PySem.W.specialIn K (.ref p12) "__get__" = some (some (.builtin "property.__get__")))
    (t12 : PySem.W.takesIn K (.ref p12) = some true)
    (r12 : PySem.W.recIn K p12 "property" = some (.ref f12 :: rest12))
    (l12 : K.lookup f12 = some ⟨oc12, od12, .func (PySem.W.fnOf "coefficients" "Form.coefficients" (defArgs sForm_coefficients) (defBody sForm_coefficients) (defScope sForm_coefficients) .none kV12 dc12 pm12 an12 cd12 ct12), sl12⟩)
    (c12 : PySem.W.codeIn K cd12 "Form.coefficients" = true)
    (k12 : PySem.W.keepIn K (.ref f12) = true)
    (a13 : PySem.W.findIn K (.ref C) "constant" = some (some (.ref p13)))
    (g13 : PySem.W.specialIn K (.ref p13) "__get__" = some (some (.builtin "property.__get__")))
    (t13 : PySem.W.takesIn K (.ref p13) = some true)
    (r13 : PySem.W.recIn K p13 "property" = some (.ref f13 :: rest13))
    (l13 : K.lookup f13 = some ⟨oc13, od13, .func (PySem.W.fnOf "constant" "Form.constant" (defArgs sForm_constant) (defBody sForm_constant) (defScope sForm_constant) .none kV13 dc13 pm13 an13 cd13 ct13), sl13⟩)
    (c13 : PySem.W.codeIn K cd13 "Form.constant" = true)
    (k13 : PySem.W.keepIn K (.ref f13) = true)
    (a14 : PySem.W.findIn K (.ref C) "__getitem__" = some (some (.ref f14)))
    (i14 : PySem.W.isFn K (.ref f14) = true)
    (l14 : K.lookup f14 = some ⟨oc14, od14, .func (PySem.W.fnOf "__getitem__" "Form.__getitem__" (defArgs sForm_getitem) (defBody sForm_getitem) (defScope sForm_getitem) .none kV14 dc14 pm14 an14 cd14 ct14), sl14⟩)
    (c14 : PySem.W.codeIn K cd14 "Form.__getitem__" = true)
    (k14 : PySem.W.keepIn K (.ref f14) = true)
    (a15 : PySem.W.findIn K (.ref C) "__contains__" = some (some (.ref f15)))
    (i15 : PySem.W.isFn K (.ref f15) = true)
    (l15 : K.lookup f15 = some ⟨oc15, od15, .func (PySem.W.fnOf "__contains__" "Form.__contains__" (defArgs sForm_contains) (defBody sForm_contains) (defScope sForm_contains) .none kV15 dc15 pm15 an15 cd15 ct15), sl15⟩)
    (c15 : PySem.W.codeIn K cd15 "Form.__contains__" = true)
    (k15 : PySem.W.keepIn K (.ref f15) = true)
    (a16 : PySem.W.findIn K (.ref C) "__len__" = some (some (.ref f16)))
    (i16 : PySem.W.isFn K (.ref f16) = true)
    (l16 : K.lookup f16 = some ⟨oc16, od16, .func (PySem.W.fnOf "__len__" "Form.__len__" (defArgs sForm_len) (defBody sForm_len) (defScope sForm_len) .none kV16 dc16 pm16 an16 cd16 ct16), sl16⟩)
    (c16 : PySem.W.codeIn K cd16 "Form.__len__" = true)
    (k16 : PySem.W.keepIn K (.ref f16) = true)
    (a17 : PySem.W.nsIn K mainGlobals "law" = some (some (.ref f17)))
    (l17 : K.lookup f17 = some ⟨oc17, od17, .func (PySem.W.fnOf "law" "law" (defArgs sLaw) (defBody sLaw) (defScope sLaw) .none kV17 dc17 pm17 an17 cd17 ct17), sl17⟩)
    (c17 : PySem.W.codeIn K cd17 "law" = true)
    (k17 : PySem.W.keepIn K (.ref f17) = true)
    (uL : K.lookup CU = some (excClassObj nmU qU CU NU bsU [.ref ONE, .type "ValueError", .type "Exception", .type "BaseException", .type "object"] true snU subU abU colU ddU k0U k1U k2U k3U k5U "ValueError.__new__"))
    (usa : PySem.W.findIn K (.ref CU) "__setattr__" = some (some (.builtin "object.__setattr__")))
    (uex : PySem.W.subIn K (.ref CU) (.type "BaseException") = some true)
    (uty : PySem.W.typeIn K (.ref CU) = some (.type "type"))
    (ukC : PySem.W.keepIn K (.ref CU) = true)
    (uiC : PySem.W.findIn K (.ref CU) "__init__" = some (some (.ref fU)))
    (utI : PySem.W.typeIn K (.ref fU) = some (.type "function"))
    (uno : PySem.W.findIn K (.ref CU) "name" = some none)
    (uga : PySem.W.findIn K (.ref CU) "__getattribute__" = some (some (.builtin "BaseException.__getattribute__")))
    (ugg : PySem.W.findIn K (.ref CU) "__getattr__" = some none)
    (uhd : PySem.W.hasDictIn K CU = true)
    (usu : PySem.W.subIn K (.ref CU) (.ref CU) = some true)
    (ul : K.lookup fU = some ⟨ocU, odU, .func (PySem.W.fnOf "__init__" "BadName.__init__" (defArgs sBadName_init) (defBody sBadName_init) (defScope sBadName_init) .none kVU dcU pmU anU cdU ctU), slU⟩)
    (uc : PySem.W.codeIn K cdU "BadName.__init__" = true)
    (uk : PySem.W.keepIn K (.ref fU) = true)
    (m1 : PySem.W.nsIn K mainGlobals "MOST_CHARACTERS" = some (some (.int 6 t1)))
    (m2 : PySem.W.nsIn K mainGlobals "LETTERS" = some (some (.str lowL t2)))
    (m3 : PySem.W.nsIn K mainGlobals "DIGITS" = some (some (.str digL t3)))
    (m4 : PySem.W.nsIn K mainGlobals "RESERVED" = some (some (.str "mod" t4)))
    (pg : PySem.W.plainGet K C Str.empty = true)
    (hd : PySem.W.hasDictIn K C = true)
    (po : PySem.W.plainOver K C = true)
    (sa : PySem.W.findIn K (.ref C) "__setattr__" = some (some (.builtin "object.__setattr__")))
    (mk : PySem.W.makesIn K C = true)
    (kc : PySem.W.keepIn K (.ref C) = true)
    (nF : PySem.W.findIn K (.ref C) "_coefficients" = some none)
    (nT : PySem.W.findIn K (.ref C) "_constant" = some none)
    (fi : PySem.W.fnIn K f14 = true)
    (z_len : PySem.W.nsIn K mainGlobals "len" = some none)
    (z_int : PySem.W.nsIn K mainGlobals "int" = some none)
    (z_max : PySem.W.nsIn K mainGlobals "max" = some none)
    (z_abs : PySem.W.nsIn K mainGlobals "abs" = some none)
    (z_all : PySem.W.nsIn K mainGlobals "all" = some none)
    (z_range : PySem.W.nsIn K mainGlobals "range" = some none)
    (z_sorted : PySem.W.nsIn K mainGlobals "sorted" = some none)
    (z_dict : PySem.W.nsIn K mainGlobals "dict" = some none)
    (z_isinstance : PySem.W.nsIn K mainGlobals "isinstance" = some none) :
    ∃ fd : FuncData, (∀ (s : Shared) (v : Value), BindsTo s fd ⟨[v], []⟩ [("_law_script", v)]) ∧ ∀ base : Heap, K.In base → base.Ns mainGlobals mg → FnOk l.prog w K mg base CX0 6 fa fd ["_law_script"] (spLaw K) := by
  have e := hfa.symm.trans (PySem.W.mg_of X G a17)
  cases e
  have F1 := fun_mk (st := sStart) l1 c1 k1
  have b1 := F1.binds (ps := ["_law_script"]) fun _ _ _ _ _ _ us hl => match us, hl with | [_], _ => rfl
  have F2 := fun_mk (st := sTake) l2 c2 k2
  have b2 := F2.binds (ps := ["_law_state", "_law_limit"]) fun _ _ _ _ _ _ us hl => match us, hl with | [_, _], _ => rfl
  have F3 := fun_mk (st := sSigns) l3 c3 k3
  have b3 := F3.binds (ps := []) fun _ _ _ _ _ _ us hl => match us, hl with | [], _ => rfl
  have F4 := fun_mk (st := sGood) l4 c4 k4
  have b4 := F4.binds (ps := ["_law_text"]) fun _ _ _ _ _ _ us hl => match us, hl with | [_], _ => rfl
  have F5 := fun_mk (st := s_name) l5 c5 k5
  have b5 := F5.binds (ps := ["_law_state"]) fun _ _ _ _ _ _ us hl => match us, hl with | [_], _ => rfl
  have F6 := fun_mk (st := s_integer) l6 c6 k6
  have b6 := F6.binds (ps := ["_law_state"]) fun _ _ _ _ _ _ us hl => match us, hl with | [_], _ => rfl
  have F7 := fun_mk (st := s_key) l7 c7 k7
  have b7 := F7.binds (ps := ["_law_state", "_law_before"]) fun _ _ _ _ _ _ us hl => match us, hl with | [_, _], _ => rfl
  have F8 := fun_mk (st := s_agrees) l8 c8 k8
  have b8 := F8.binds (ps := ["_law_form", "_law_given", "_law_expected", "_law_offset"]) fun _ _ _ _ _ _ us hl => match us, hl with | [_, _, _, _], _ => rfl
  have F9 := fun_mk (st := s_made) l9 c9 k9
  have b9 := F9.binds (ps := ["_law_handed", "_law_offset", "_law_plan"]) fun _ _ _ _ _ _ us hl => match us, hl with | [_, _, _], _ => rfl
  have F10 := fun_mk (st := sValid) l10 c10 k10
  have b10 := F10.binds (ps := ["text"]) fun _ _ _ _ _ _ us hl => match us, hl with | [_], _ => rfl
  have F11 : FunD K "__init__" "Form.__init__" (defArgs sForm_init) (defBody sForm_init) (defScope sForm_init) [V.int 0] [] f11 _ := ⟨⟨_, _, _, _, _, _, _, _, _, _, rfl, l11, c11, .inr ⟨by simp, _, _, _, _, rfl, lT11, rfl, .cons ⟨_, rfl⟩ .nil⟩, .inl rfl⟩, k11⟩
  obtain ⟨ds11, vd11, b11⟩ := F11.binds1 (ps := ["self", "coefficients", "constant"]) 3 1 (by simp) (by decide) fun _ _ _ _ _ _ _ us its h1 h2 => match us, its, h1, h2 with | [_, _, _], [_], _, _ => ⟨_, rfl, rfl⟩
  cases vd11
  have F12 := fun_mk (st := sForm_coefficients) l12 c12 k12
  have b12 := F12.binds (ps := ["self"]) fun _ _ _ _ _ _ us hl => match us, hl with | [_], _ => rfl
  have F13 := fun_mk (st := sForm_constant) l13 c13 k13
  have b13 := F13.binds (ps := ["self"]) fun _ _ _ _ _ _ us hl => match us, hl with | [_], _ => rfl
  have F14 := fun_mk (st := sForm_getitem) l14 c14 k14
  have b14 := F14.binds (ps := ["self", "name"]) fun _ _ _ _ _ _ us hl => match us, hl with | [_, _], _ => rfl
  have F15 := fun_mk (st := sForm_contains) l15 c15 k15
  have b15 := F15.binds (ps := ["self", "name"]) fun _ _ _ _ _ _ us hl => match us, hl with | [_, _], _ => rfl
  have F16 := fun_mk (st := sForm_len) l16 c16 k16
  have b16 := F16.binds (ps := ["self"]) fun _ _ _ _ _ _ us hl => match us, hl with | [_], _ => rfl
  have F17 := fun_mk (st := sLaw) l17 c17 k17
  have mz_len := PySem.W.mg_none_of X G z_len
  have mz_int := PySem.W.mg_none_of X G z_int
  have mz_max := PySem.W.mg_none_of X G z_max
  have mz_abs := PySem.W.mg_none_of X G z_abs
  have mz_all := PySem.W.mg_none_of X G z_all
  have mz_range := PySem.W.mg_none_of X G z_range
  have mz_sorted := PySem.W.mg_none_of X G z_sorted
  have mz_dict := PySem.W.mg_none_of X G z_dict
  have mz_isinstance := PySem.W.mg_none_of X G z_isinstance
  have G1 : Df K mg "_law_start" f1 := ⟨PySem.W.mg_of X G a1, k1⟩
  have G2 : Df K mg "_law_take" f2 := ⟨PySem.W.mg_of X G a2, k2⟩
  have G3 : Df K mg "_law_signs" f3 := ⟨PySem.W.mg_of X G a3, k3⟩
  have G4 : Df K mg "_law_good" f4 := ⟨PySem.W.mg_of X G a4, k4⟩
  have G5 : Df K mg "_law_name" f5 := ⟨PySem.W.mg_of X G a5, k5⟩
  have G6 : Df K mg "_law_integer" f6 := ⟨PySem.W.mg_of X G a6, k6⟩
  have G7 : Df K mg "_law_key" f7 := ⟨PySem.W.mg_of X G a7, k7⟩
  have G8 : Df K mg "_law_agrees" f8 := ⟨PySem.W.mg_of X G a8, k8⟩
  have G9 : Df K mg "_law_made" f9 := ⟨PySem.W.mg_of X G a9, k9⟩
  have G10 : Df K mg "valid_name" f10 := ⟨PySem.W.mg_of X G a10, k10⟩
  have T : Bi mg := ⟨mz_len, mz_int, mz_max, mz_abs⟩
  have N : Nm mg := ⟨⟨_, PySem.W.mg_of X G m1⟩, ⟨_, PySem.W.mg_of X G m2⟩, ⟨_, PySem.W.mg_of X G m3⟩, ⟨_, PySem.W.mg_of X G m4⟩, mz_all⟩
  have CL : Cls K C := ⟨pg, hd, po, sa⟩
  have FT : FTx K mg C := ⟨CL, nF, nT, mz_sorted⟩
  have M : Mk K C f11 := ⟨mk, a11, i11, kc⟩
  have mC : mg "Form" = some (.ref C) := PySem.W.mg_of X G aC
  have U : ErrC K mg "BadName" CU fU "name" := ⟨PySem.W.mg_of X G aU, ⟨⟨nmU, qU, NU, bsU, _, snU, subU, abU, colU, ddU, k0U, k1U, k2U, k3U, k5U, uL, rfl⟩, usa, uex, uty, ukC⟩, uiC, utI, uno, ⟨uga, ugg, uex, uhd⟩, PySem.W.exm_ref uex uhd uty usu⟩
  have FU := fun_mk (st := sBadName_init) ul uc uk
  have bU := FU.binds (ps := ["self", "name"]) fun _ _ _ _ _ _ us hl => match us, hl with | [_, _], _ => rfl
  obtain ⟨dsD, vdD, bD⟩ := F11.binds1 (ps := ["self", "coefficients", "constant"]) 2 0 (by simp) (by decide) fun _ _ _ _ _ _ _ us its h1 h2 => match us, its, h1, h2 with | [_, _], [_], _, _ => ⟨_, rfl, rfl⟩
  obtain ⟨_, kb1⟩ := F11.kbindsD (ps := ["self", "coefficients", "constant"]) 2 ["constant"] (fun us _ ws => us ++ ws) (by simp) (fun r1 _ r3 => r1.append r3) fun _ _ _ _ _ _ _ us its ws h1 h2 h3 => match us, its, ws, h1, h2, h3 with | [_, _], [_], [_], _, _, _ => ⟨_, rfl, rfl⟩
  obtain ⟨_, kb2⟩ := F11.kbindsD (ps := ["self", "coefficients", "constant"]) 1 ["constant", "coefficients"] (fun us _ ws => us ++ ws.reverse) (by simp) (fun r1 _ r3 => r1.append r3.reverse) fun _ _ _ _ _ _ _ us its ws h1 h2 h3 => match us, its, ws, h1, h2, h3 with | [_], [_], [_, _], _, _, _ => ⟨_, rfl, rfl⟩
  refine ⟨PySem.W.fnOf "law" "law" (defArgs sLaw) (defBody sLaw) (defScope sLaw) .none kV17 dc17 pm17 an17 cd17 ct17, fun s v => .of_eq rfl, fun base _ _ => ?_⟩
  have E1 := ok_start (P := l.prog) (w := w) (base := base) F1 T
  have E2 := ok_take (P := l.prog) (w := w) (base := base) F2 T
  have E3 := ok_signs (P := l.prog) (w := w) (mg := mg) (base := base) F3
  have E4 := ok_good (P := l.prog) (w := w) (base := base) F4 T mz_all
  have E5 := ok_name F5 mz_range E2 G2 b2
  have E6 := ok_int F6 E2 G2 b2
  have E7 := ok_key F7 T E2 G2 b2 E5 G5 b5 E3 G3 b3
  have E10 := ok_valid (P := l.prog) (w := w) (base := base) F10 T N
  have EU := ok_bn (P := l.prog) (w := w) (base := base) FU U
  have E11 := ok_initX F11 FT U EU bU E10 G10 b10
  have E12 := ok_cf (P := l.prog) (w := w) (base := base) F12 FT mz_dict
  have E13 := ok_ct (P := l.prog) (w := w) (base := base) F13 FT
  have E14 := ok_gi (P := l.prog) (w := w) (base := base) F14 FT
  have E15 := ok_cn (P := l.prog) (w := w) (base := base) F15 FT
  have E16 := ok_ln (P := l.prog) (w := w) (base := base) F16 FT mz_len
  have E9 := ok_made F9 U mC M E11 b11 bD vdD kb1 kb2
  have E8 := ok_agr F8 mz_isinstance mz_len mz_dict ⟨f12, f13, f14, f15, f16, p12, p13, _, _, _, _, _, CL, ⟨a12, g12, t12, ⟨_, r12⟩⟩, ⟨a13, g13, t13, ⟨_, r13⟩⟩, ⟨a14, i14⟩, ⟨a15, i15⟩, ⟨a16, i16⟩, fi, E12, E13, E14, E15, E16, b12, b13, b14, b15, b16⟩ FT
  exact ok_law F17 mz_dict mz_range mz_sorted E1 G1 b1 E2 G2 b2 E7 G7 b7 E6 G6 b6 E4 G4 b4 E9 G9 b9 E8 G8 b8
theorem walk {l : PySem.W.OpenLaw} {q : Program} {loose : List Str} {XP : (Str → Option Value) → Heap → Prop} {YP : World → Heap → Prop} {d : DefRec} {K : Params → PySem.W.Frag} (hn : l.most = some 63) (hdf : d.params.defaults = [])
    (hY : ∀ (w : World) (h : Heap), YP w h → (K w.params).In h)
    (F : ∀ (w : World) (mg : Str → Option Value) (fa : Addr) (h : Heap), (K w.params).In h → h.Ns mainGlobals mg → mg d.name = some (.ref fa) →
      ∃ fd : FuncData, (∀ (s : Shared) (u : Value), BindsTo s fd ⟨[u], []⟩ [("_law_script", u)]) ∧ ∀ base : Heap, (K w.params).In base → base.Ns mainGlobals mg → FnOk l.prog w (K w.params) mg base CX0 6 fa fd ["_law_script"] (spLaw (K w.params))) :
    PySem.W.WalkO q loose XP YP l.row.toRowW d [] (fun f vs => PySem.call f vs) :=
  L2.walk_of (n := 63) (k := 6) (x := "_law_script") (CX := fun _ => CX0) (sp := fun w => spLaw (K w.params)) hn (by decide) hdf ⟨rfl, by decide, by decide⟩ hY F (fun _ _ a ns hl _ hS => ⟨a, ns, rfl, hS, hl, fun _ => rfl⟩) fun _ _ _ _ _ z => z
end OS
open PySem PySem.W PyProof.Rows
set_option maxRecDepth 100000 in
set_option maxHeartbeats 0 in
theorem PySem.Challenge.cw_oneshard_k02_form_parts_holds : PySem.Challenge.rw_oneshard_k02_form_parts.Holds := by
  w_on; o_law; k_head; (case hw => w_witness2)
  k_fill
  refine OS.walk (l := PySem.Challenge.rw_oneshard_k02_form_parts) rfl rfl (fun w h Y => PySem.W.kIn_of Y) ?F
  case F =>
    intro w mg fa h KX G hmg
    refine' OS.all_mk KX G hmg ?aC ?aU ?aO ?a1 ?l1 ?c1 ?k1 ?a2 ?l2 ?c2 ?k2 ?a3 ?l3 ?c3 ?k3 ?a4 ?l4 ?c4 ?k4 ?a5 ?l5 ?c5 ?k5 ?a6 ?l6 ?c6 ?k6 ?a7 ?l7 ?c7 ?k7 ?a8 ?l8 ?c8 ?k8 ?a9 ?l9 ?c9 ?k9 ?a10 ?l10 ?c10 ?k10 ?a11 ?i11 ?l11 ?lT11 ?c11 ?k11 ?a12 ?g12 ?t12 ?r12 ?l12 ?c12 ?k12 ?a13 ?g13 ?t13 ?r13 ?l13 ?c13 ?k13 ?a14 ?i14 ?l14 ?c14 ?k14 ?a15 ?i15 ?l15 ?c15 ?k15 ?a16 ?i16 ?l16 ?c16 ?k16 ?a17 ?l17 ?c17 ?k17 ?uL ?usa ?uex ?uty ?ukC ?uiC ?utI ?uno ?uga ?ugg ?uhd ?usu ?ul ?uc ?uk ?m1 ?m2 ?m3 ?m4 ?pg ?hd ?po ?sa ?mk ?kc ?nF ?nT ?fi ?z_len ?z_int ?z_max ?z_abs ?z_all ?z_range ?z_sorted ?z_dict ?z_isinstance
    (case aC => k_is)
    (case aU => k_is)
    (case aO => k_is)
    (case a1 => k_is)
    (case l1 => k_is)
    (case c1 => k_is)
    (case k1 => k_is)
    (case a2 => k_is)
    (case l2 => k_is)
    (case c2 => k_is)
    (case k2 => k_is)
    (case a3 => k_is)
    (case l3 => k_is)
    (case c3 => k_is)
    (case k3 => k_is)
    (case a4 => k_is)
    (case l4 => k_is)
    (case c4 => k_is)
    (case k4 => k_is)
    (case a5 => k_is)
    (case l5 => k_is)
    (case c5 => k_is)
    (case k5 => k_is)
    (case a6 => k_is)
    (case l6 => k_is)
    (case c6 => k_is)
    (case k6 => k_is)
    (case a7 => k_is)
    (case l7 => k_is)
    (case c7 => k_is)
    (case k7 => k_is)
    (case a8 => k_is)
    (case l8 => k_is)
    (case c8 => k_is)
    (case k8 => k_is)
    (case a9 => k_is)
    (case l9 => k_is)
    (case c9 => k_is)
    (case k9 => k_is)
    (case a10 => k_is)
    (case l10 => k_is)
    (case c10 => k_is)
    (case k10 => k_is)
    (case a11 => k_is)
    (case i11 => k_is)
    (case l11 => k_is)
    (case lT11 => k_is)
    (case c11 => k_is)
    (case k11 => k_is)
    (case a12 => k_is)
    (case g12 => k_is)
    (case t12 => k_is)
    (case r12 => k_is)
    (case l12 => k_is)
    (case c12 => k_is)
    (case k12 => k_is)
    (case a13 => k_is)
    (case g13 => k_is)
    (case t13 => k_is)
    (case r13 => k_is)
    (case l13 => k_is)
    (case c13 => k_is)
    (case k13 => k_is)
    (case a14 => k_is)
    (case i14 => k_is)
    (case l14 => k_is)
    (case c14 => k_is)
    (case k14 => k_is)
    (case a15 => k_is)
    (case i15 => k_is)
    (case l15 => k_is)
    (case c15 => k_is)
    (case k15 => k_is)
    (case a16 => k_is)
    (case i16 => k_is)
    (case l16 => k_is)
    (case c16 => k_is)
    (case k16 => k_is)
    (case a17 => k_is)
    (case l17 => k_is)
    (case c17 => k_is)
    (case k17 => k_is)
    (case uL => k_is)
    (case usa => k_is)
    (case uex => k_is)
    (case uty => k_is)
    (case ukC => k_is)
    (case uiC => k_is)
    (case utI => k_is)
    (case uno => k_is)
    (case uga => k_is)
    (case ugg => k_is)
    (case uhd => k_is)
    (case usu => k_is)
    (case ul => k_is)
    (case uc => k_is)
    (case uk => k_is)
    (case m1 => k_is)
    (case m2 => k_is)
    (case m3 => k_is)
    (case m4 => k_is)
    (case pg => k_is)
    (case hd => k_is)
    (case po => k_is)
    (case sa => k_is)
    (case mk => k_is)
    (case kc => k_is)
    (case nF => k_is)
    (case nT => k_is)
    (case fi => k_is)
    (case z_len => k_is)
    (case z_int => k_is)
    (case z_max => k_is)
    (case z_abs => k_is)
    (case z_all => k_is)
    (case z_range => k_is)
    (case z_sorted => k_is)
    (case z_dict => k_is)
    (case z_isinstance => k_is)
#print axioms PySem.Challenge.cw_oneshard_k02_form_parts_holds

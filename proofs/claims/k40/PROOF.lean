import PyProof.Rows.All
import Wide.All
import OpenK.AllK
import Wide.FinOn
import HandS.Base
import HandS.Call
import HandS.List
import HandS.Comp
import HandS.Ends
import HandS.Dict
import HandS.Iter
import HandS.Text
import HandS.Words
import HandS.WordsList
import HandS.WordsDict
import HandS.Walk
import HandS.IsInst
import HandS.Defaults
import HandS.Codes
import HandS.More
import HandS.DictComp
import HandS.FStr
import HandS.OwnEq
import HandS.Property
import HandS.Style
import HandS.StrMore
import KE.KCallOwn
import KE.KOpsOwn
import HandS.Gcd
import HandS.Wide
import HandS.Exc
import HandS.ExcOwn
import HandS.ExcInit
import HandS.ExcField
import HandS.ExcIs
import HandS.ExcValue
import HandS.TryOnly
import HandS.WordsExc
import HandS.Star
import HandS.HotCalls
import HandS.MakeKwOnly
import HandS.MakeKw
import PySem.Challenge.RW_oneshard_k40_sums_and_bases
set_option Elab.async false
set_option linter.all false
set_option maxRecDepth 100000
set_option maxHeartbeats 2000000
namespace OS
open PySem L2
def top (i : Nat) : Stmt := PySem.Challenge.pw_oneshard_k40_sums_and_bases.main.body.getD i (.Pass ⟨0, 0, 0, 0⟩)
abbrev sZeroSum_init : Stmt := inClass (top 3) 0
abbrev s_common_divisor : Stmt := top 5
abbrev s_partial_sums : Stmt := top 7
abbrev s_shares_divisor : Stmt := top 8
abbrev s_least_base : Stmt := top 9
abbrev s_is_prime : Stmt := top 10
abbrev sStart : Stmt := top 12
abbrev s_draw : Stmt := top 13
abbrev s_prime : Stmt := top 14
abbrev s_sums : Stmt := top 15
abbrev s_base : Stmt := top 16
abbrev s_is_integer : Stmt := top 17
abbrev s_numbers : Stmt := top 18
abbrev s_right : Stmt := top 19
abbrev sLaw : Stmt := top 20
end OS
namespace OS
open PySem L2
/-! ### the drawing state: a list of great cells, a list of cells, a count -/
theorem get_list {X : Cx} : PGet X (fun o i H Q => ∃ p xs k v, o = .ref p ∧ i = .int k ∧ SqL X.K H p xs ∧ 0 ≤ k ∧ k < 2 ^ 63 ∧ xs[k.toNat]? = some v ∧ Q v H) := by
  intro pins s σ H o i ov iv Q I ro ri h
  obtain ⟨p, xs, k, v, rfl, rfl, hS, h0, h1, hv, q⟩ := h
  cases ro
  obtain ⟨t, rfl⟩ := ri
  obtain ⟨its, r, pl, hz⟩ := Inv.list I hS
  obtain ⟨u, hu, ru⟩ := Vals.get r hv
  exact wpAny_getItem_list pl.isList h0 h1 (by rw [List.getElem?_toArray]; exact hu) ⟨v, H, I, ru, q⟩
structure BiD (mg : Str → Option Value) : Prop where
  len : mg "len" = none
  int : mg "int" = none
  abs : mg "abs" = none
  list : mg "list" = none
def Is (H : Hp) (st b : Addr) : Prop := ∃ x y z : V, H st = some (.lst [x, y, z]) ∧ (x = .ref b ∨ y = .ref b)
def Own (st : Addr) (H : Hp) (b : Addr) (o : HO) : Prop := H b = some o ∧ b ≠ st ∧ ¬ Is H st b
/-- what is neither the state nor its great cells stays -/
def Kd (st : Addr) (H H' : Hp) : Prop := ∀ b o, Own st H b o → Own st H' b o
theorem Kd.refl {st : Addr} (H : Hp) : Kd st H H := fun _ _ h => h
theorem Kd.trans {st : Addr} {H H1 H2 : Hp} (a : Kd st H H1) (b : Kd st H1 H2) : Kd st H H2 := fun x o h => b x o (a x o h)
structure Sx (H : Hp) (st bl cl : Addr) (c : Int) (bs ns : List Int) : Prop where
  s : H st = some (.lst [.ref bl, .ref cl, .int c])
  b : H bl = some (.lst (bs.map V.int))
  k : H cl = some (.lst (ns.map V.int))
  nb : st ≠ bl
  nc : st ≠ cl
  bc : bl ≠ cl
structure StD (H : Hp) (st : Addr) (m : Nat) : Prop where
  ex : ∃ (bl cl : Addr) (c : Int) (bs ns : List Int), Sx H st bl cl c bs ns ∧ 0 ≤ c ∧ c ≤ m ∧ bs.length ≤ 63 ∧ 0 < ns.length ∧ ns.length ≤ 64
theorem StD.mono {H : Hp} {st : Addr} {m n : Nat} (S : StD H st m) (h : m ≤ n) : StD H st n := by
  obtain ⟨bl, cl, c, bs, ns, x, a, b, d⟩ := S.ex
  exact ⟨bl, cl, c, bs, ns, x, a, by omega, d⟩
theorem StD.there {H : Hp} {st : Addr} {m : Nat} (S : StD H st m) : ∃ o, H st = some o := by
  obtain ⟨bl, cl, c, bs, ns, x, _⟩ := S.ex
  exact ⟨_, x.s⟩
theorem Sx.new {H : Hp} {st bl cl D : Addr} {c : Int} {bs ns : List Int} (x : Sx H st bl cl c bs ns) {o : HO} (h : H D = none) : Sx (L2.upd H D o) st bl cl c bs ns :=
  ⟨by rw [upd_ne (ne_of_none x.s h)]; exact x.s, by rw [upd_ne (ne_of_none x.b h)]; exact x.b, by rw [upd_ne (ne_of_none x.k h)]; exact x.k, x.nb, x.nc, x.bc⟩
theorem StD.new {H : Hp} {st D : Addr} {m : Nat} (S : StD H st m) {o : HO} (h : H D = none) : StD (L2.upd H D o) st m := by
  obtain ⟨bl, cl, c, bs, ns, x, a⟩ := S.ex
  exact ⟨bl, cl, c, bs, ns, x.new h, a⟩
theorem is_upd {H : Hp} {st D b : Addr} {o : HO} (h : st ≠ D) : Is (L2.upd H D o) st b → Is H st b := by
  rintro ⟨x, y, z, e, r⟩
  rw [upd_ne h] at e
  exact ⟨x, y, z, e, r⟩
theorem Kd.new {H : Hp} {st D : Addr} {o u : HO} (hs : H st = some u) (h : H D = none) : Kd st H (L2.upd H D o) := fun b v ⟨e, n, i⟩ =>
  ⟨by rw [upd_ne (ne_of_none e h)]; exact e, n, fun z => i (is_upd (ne_of_none hs h) z)⟩
/-- what is put in place of an own object: all others stay -/
theorem Sx.own {H : Hp} {st bl cl : Addr} {c : Int} {bs ns : List Int} (x : Sx H st bl cl c bs ns) : Is H st bl := ⟨_, _, _, x.s, .inl rfl⟩
theorem Sx.ownc {H : Hp} {st bl cl : Addr} {c : Int} {bs ns : List Int} (x : Sx H st bl cl c bs ns) : Is H st cl := ⟨_, _, _, x.s, .inr rfl⟩
theorem Kd.st {H : Hp} {st bl cl : Addr} {c d : Int} {bs ns : List Int} (x : Sx H st bl cl c bs ns) : Kd st H (L2.upd H st (.lst [.ref bl, .ref cl, .int d])) := fun b v ⟨e, n, i⟩ =>
  ⟨by rw [upd_ne n]; exact e, n, fun ⟨p, q, r, z, t⟩ => by
    rw [upd_same] at z
    cases z
    rcases t with t | t <;> cases t
    · exact i x.own
    · exact i x.ownc⟩
theorem Kd.bl {H : Hp} {st bl cl : Addr} {c : Int} {bs ns : List Int} {o : HO} (x : Sx H st bl cl c bs ns) : Kd st H (L2.upd H bl o) := fun b v ⟨e, n, i⟩ =>
  ⟨by rw [upd_ne (fun z => by subst z; exact i x.own)]; exact e, n, fun z => i (is_upd x.nb z)⟩
theorem Sx.st {H : Hp} {st bl cl : Addr} {c d : Int} {bs ns : List Int} (x : Sx H st bl cl c bs ns) : Sx (L2.upd H st (.lst [.ref bl, .ref cl, .int d])) st bl cl d bs ns :=
  ⟨upd_same, by rw [upd_ne x.nb.symm]; exact x.b, by rw [upd_ne x.nc.symm]; exact x.k, x.nb, x.nc, x.bc⟩
theorem Sx.bl {H : Hp} {st bl cl : Addr} {c : Int} {bs cs ns : List Int} (x : Sx H st bl cl c bs ns) : Sx (L2.upd H bl (.lst (cs.map V.int))) st bl cl c cs ns :=
  ⟨by rw [upd_ne x.nb]; exact x.s, upd_same, by rw [upd_ne x.bc.symm]; exact x.k, x.nb, x.nc, x.bc⟩
theorem Sx.next {H : Hp} {st bl cl p : Addr} {c : Int} {bs cs ns : List Int} (x : Sx H st bl cl c bs ns) (hp : H p = none) : Sx (L2.upd (L2.upd H p (.lst (cs.map V.int))) st (.lst [.ref p, .ref cl, .int c])) st p cl c cs ns :=
  ⟨upd_same, by rw [upd_ne (ne_of_none x.s hp).symm, upd_same], by rw [upd_ne x.nc.symm, upd_ne (ne_of_none x.k hp)]; exact x.k, ne_of_none x.s hp, x.nc, (ne_of_none x.k hp).symm⟩
theorem Kd.next {H : Hp} {st bl cl p : Addr} {c : Int} {bs ns : List Int} {o : HO} (x : Sx H st bl cl c bs ns) (hp : H p = none) : Kd st H (L2.upd (L2.upd H p o) st (.lst [.ref p, .ref cl, .int c])) := fun b v ⟨e, n, i⟩ =>
  ⟨by rw [upd_ne n, upd_ne (ne_of_none e hp)]; exact e, n, fun ⟨y, z, r, q, t⟩ => by
    rw [upd_same] at q
    cases q
    rcases t with t | t <;> cases t
    · rw [hp] at e
      cases e
    · exact i x.ownc⟩
theorem fmod_in {i j : Int} (h : 0 < j) : 0 ≤ i.fmod j ∧ i.fmod j < j := ⟨Int.fmod_nonneg_of_pos _ h, Int.fmod_lt_of_pos _ h⟩
theorem getD_int {ns : List Int} {k : Int} (h0 : 0 ≤ k) (h1 : k < (ns.length : Int)) : ∃ z : Int, (ns.map V.int)[k.toNat]? = some (V.int z) ∧ ns[k.toNat]? = some z := by
  have hk : k.toNat < ns.length := by omega
  refine ⟨ns[k.toNat], ?_, List.getElem?_eq_getElem hk⟩
  rw [List.getElem?_map, List.getElem?_eq_getElem hk]
  rfl
theorem atI_in {α : Type} {xs : List α} {k : Int} {v : α} (h0 : 0 ≤ k) (h : xs[k.toNat]? = some v) : atI xs k = some v := by
  have := atI_nat h
  rwa [Int.toNat_of_nonneg h0] at this
theorem ints_dp {K : PySem.W.Frag} {H : Hp} : ∀ (ns : List Int), DpAll K H (ns.map V.int) (ns.map PyData.int)
  | [] => .nil
  | n :: ns => .cons (.int n) (ints_dp ns)
theorem ints_shaped : ∀ l : List Int, PyData.canLayAll0 (l.map PyData.int) = true ∧ PyData.depthAll (l.map PyData.int) ≤ 1
  | [] => ⟨rfl, by simp [PyData.depthAll]⟩
  | j :: l => by
    obtain ⟨h1, h2⟩ := ints_shaped l
    refine ⟨?_, ?_⟩
    · rw [List.map_cons]; unfold PyData.canLayAll0; rw [h1]; rfl
    · rw [List.map_cons]; unfold PyData.depthAll; simp only [PyData.depth]; omega
theorem intsL_shaped (l : List Int) : PySem.SeqAt.shaped (.list (l.map PyData.int)) = true := by
  obtain ⟨h1, h2⟩ := ints_shaped l
  unfold SeqAt.shaped
  simp only [PyData.canLay0, PyData.depth, h1, Bool.true_and, Bool.and_true]
  first
    | exact decide_eq_true (by omega)
    | (simp; omega)
theorem eqv_nil (l : List Int) : PyData.eqv (.list (l.map PyData.int)) (.list []) = l.isEmpty := by
  cases l with
  | nil => decide +kernel
  | cons x l => simp [PyData.eqv, PyData.eqvAll]
end OS
namespace OS
open PySem L2
def spDraw : Sp := fun vs H Q _ => ∃ (st : Addr) (m : Nat) (size : Int), vs = [.ref st, .int size] ∧ StD H st m ∧ m ≤ 1000000000 ∧ 0 < size ∧ size < 18446744073709551616 ∧
  ∀ (n : Int) (H' : Hp), 0 ≤ n → n < size → StD H' st (m + 1) → Kd st H H' → Q (.int n) H'
def spStartD (K : PySem.W.Frag) : Sp := fun vs H Q _ => ∃ (a : Addr) (ns : List Int), vs = [.ref a] ∧ SqL K H a (ns.map V.int) ∧ ns.length ≤ 63 ∧
  ∀ (st : Addr) (H' : Hp), StD H' st 0 → Same H H' → H st = none → (∀ b o, H b = some o → Own st H' b o) → Q (.ref st) H'
section
variable {P : Program} {w : World} {K : PySem.W.Frag} {mg : Str → Option Value} {base : Heap}
abbrev nDraw : List Str := ["_law_state", "_law_size", "_law_digit", "_law_cell", "_law_one"]
theorem scDraw : FnScope nDraw ["_law_state", "_law_size"] (defScope s_draw) := ⟨rfl, rfl, rfl, by decide +kernel, rfl, by decide +kernel, by decide +kernel⟩
theorem ok_draw {f : Addr} {fd : FuncData} (F : Fun K "_law_draw" "_law_draw" s_draw f fd) (T : BiD mg) : FnOk P w K mg base CX0 1 f fd ["_law_state", "_law_size"] spDraw := by
  refine F.ok scDraw (fun vs H Q E h => ?_) (fun cdv A outer s H vs Q E hr h => ?_)
  · obtain ⟨st, m, size, rfl, _⟩ := h
    rfl
  · obtain ⟨st, m, size, rfl, S, hm, hl0, hl1, k⟩ := h
    obtain ⟨bl, cl, c, bs, ns, x, hc0, hc1, hb, hn0, hn⟩ := S.ex
    refine ⟨_, pss_cons (ps_augS (pv 0) pe_int get_list pe_int ip_add set_list)
      (C8.pss_cut (ps_while PassesOwn.never (PW.pt (pw_and (pt_cmpR (op_neD hr.units) (pe_ix ix_list (pv 0) pe_int fun _ _ => rfl) (pe_lst pa_nil) (nomark _)) (pw_and1 (pt_cmpR op_eq (pe_ix ix_list (pe_ix ix_list (pv 0) pe_int fun _ _ => rfl) pe_int fun _ _ => rfl) pe_int (nomark _)))))
        (pss_one (ps_asg (pe_slice sl_list (pe_ix ix_list (pv 0) pe_int fun _ _ => rfl) (po_some pe_int) po_none) (pg_sub (pv 0) pe_int set_list))))
      (pss_cons (ps_if (pt_cmpR (op_neD hr.units) (pe_ix ix_list (pv 0) pe_int fun _ _ => rfl) (pe_lst pa_nil) (nomark _))
        (pss_cons (ps_set (i := 2) scDraw.nd rfl (Or.inl rfl) (pe_op op_modN (pe_callTy call_int1 (by rfl) T.int (by decide +kernel) (pa_cons (pe_ix ix_list (pe_ix ix_list (pv 0) pe_int fun _ _ => rfl) pe_int fun _ _ => rfl) pa_nil)) (pv 1)))
        (pss_cons (ps_asg (pe_op op_fdivW (pe_ix ix_list (pe_ix ix_list (pv 0) pe_int fun _ _ => rfl) pe_int fun _ _ => rfl) (pv 1)) (pg_sub (pe_ix ix_list (pv 0) pe_int fun _ _ => rfl) pe_int set_list))
        (pss_one (ps_ret (pv 2))))) pss_nil)
      (pss_cons (ps_set (i := 3) scDraw.nd rfl (Or.inl rfl) (pe_op op_modN (pe_callTy call_int1 (by rfl) T.int (by decide +kernel) (pa_cons (pe_ix ix_list (pe_ix ix_list (pv 0) pe_int fun _ _ => rfl) (pe_op op_modN (pe_callTy call_int1 (by rfl) T.int (by decide +kernel) (pa_cons (pe_ix ix_list (pv 0) pe_int fun _ _ => rfl) pa_nil)) (pe_callB call_len_seq (by rfl) T.len PySem.boot_len (pa_cons (pe_ix ix_list (pv 0) pe_int fun _ _ => rfl) pa_nil))) fun _ _ => rfl) pa_nil)) pe_int))
      (pss_cons (ps_set (i := 4) scDraw.nd rfl (Or.inl rfl) (pe_op op_modN (pe_callTy call_int1 (by rfl) T.int (by decide +kernel) (pa_cons (pe_op op_pow (pe_op op_add (pe_op op_add (pe_op op_mul (pv 3) pe_int) (pe_op op_mul (pe_ix ix_list (pv 0) pe_int fun _ _ => rfl) pe_int)) pe_int) pe_int) pa_nil)) pe_int))
      (pss_one (ps_ret (pe_op op_modN (pe_op op_modN (pe_callTy call_int1 (by rfl) T.int (by decide +kernel) (pa_cons (pe_op op_pow (pe_op op_add (pe_op op_add (pe_op op_mul (pv 4) pe_int) (pe_op op_mul (pe_ix ix_list (pv 0) pe_int fun _ _ => rfl) pe_int)) pe_int) pe_int) pa_nil)) pe_int) (pv 1)))))))), ?_⟩
    -- state[2] += 1
    refine ⟨_, rfl, st, _, 2, V.int c, rfl, rfl, SqL.of x.s, by decide, by decide, rfl, ?_⟩
    refine ⟨_, _, rfl, rfl, ?_⟩
    refine ⟨st, _, _, 2, rfl, rfl, x.s, rfl, ?_⟩
    have x1 : Sx (L2.upd H st (.lst [.ref bl, .ref cl, .int (c + 1)])) st bl cl (c + 1) bs ns := x.st
    -- the zeros ahead
    let GG : List Int → Hp → Prop := fun bs H' => ∃ bl : Addr, Sx H' st bl cl (c + 1) bs ns ∧ bs.length ≤ 63 ∧ Kd st H H'
    have σ0 : ∀ p : Prop, p → p := fun _ h => h
    refine ⟨fun σ H' => ∃ bs', σ = [some (.ref st), some (.int size), none, none, none] ∧ GG bs' H', ?_, ?_⟩
    · refine ⟨fun n σ H' => ∃ bs', bs'.length = n ∧ σ = [some (.ref st), some (.int size), none, none, none] ∧ GG bs' H', ⟨bs.length, bs, rfl, rfl, bl, x1, hb, Kd.st x⟩, ?_⟩
      rintro n σ H1 ⟨bs1, rfl, rfl, bl1, y, hb1, kd⟩
      refine ⟨_, rfl, st, _, _, V.ref bl1, rfl, rfl, SqL.of y.s, rfl, ?_⟩
      refine ⟨by show 0 ≤ sizeLine; decide, fun l hl => ?_⟩
      have y2 := y.new (o := .lst []) hl
      refine ⟨_, _, .lst (SqL.of y2.b) (ints_dp bs1), .lst (SqL.of upd_same) .nil, intsL_shaped bs1, by decide +kernel, _, rfl, ?_⟩
      rw [eqv_nil]
      have kd2 := kd.trans (Kd.new (o := .lst []) y.s hl)
      cases bs1 with
      | nil =>
        refine iteF ?_
        exact ⟨[], rfl, bl1, y2, hb1, kd2⟩
      | cons b0 br =>
        refine iteT ?_
        refine ⟨_, rfl, st, _, _, V.ref bl1, rfl, rfl, SqL.of y2.s, rfl, bl1, _, _, V.int b0, rfl, rfl, SqL.of y2.b, atI_in (by decide) rfl, ?_⟩
        refine ⟨rfl, _, rfl, ?_⟩
        refine ite2 (fun _ => ?_) (fun _ => ?_)
        · refine ⟨fun σ' H' => ∃ bs', bs'.length = br.length ∧ σ' = [some (.ref st), some (.int size), none, none, none] ∧ GG bs' H', ?_, ?_⟩
          · rintro σ' H' ⟨bs', e, r⟩
            exact ⟨br.length, by simp, bs', e, r⟩
          · refine ⟨_, rfl, st, _, _, V.ref bl1, rfl, rfl, SqL.of y2.s, rfl, ?_⟩
            refine ⟨_, rfl, bl1, _, rfl, SqL.of y2.b, fun p hp => ?_⟩
            have ecut : cutV ((b0 :: br).map V.int) (some 1) none = br.map V.int := by
              have e1 : HT.sIx ((b0 :: br).map V.int).length 0 (some 1) = 1 := by
                unfold HT.sIx
                simp
              unfold cutV
              rw [e1]
              show List.take ((((b0 :: br).map V.int).length) - 1) (List.drop 1 ((b0 :: br).map V.int)) = _
              simp
              exact List.take_of_length_le (by simp)
            rw [ecut]
            have y3 := y2.next (cs := br) hp
            refine ⟨_, rfl, st, _, _, 0, rfl, rfl, by rw [upd_ne (ne_of_none y2.s hp)]; exact y2.s, rfl, ?_⟩
            exact ⟨br, rfl, rfl, p, y3, by simp at hb1; omega, kd2.trans (Kd.next y2 hp)⟩
        · exact ⟨b0 :: br, rfl, bl1, y2, hb1, kd2⟩
    rintro σ1 H1 ⟨bs1, rfl, bl1, y, hb1, kd⟩
    refine ⟨_, rfl, st, _, _, V.ref bl1, rfl, rfl, SqL.of y.s, rfl, ?_⟩
    refine ⟨by show 0 ≤ sizeLine; decide, fun l hl => ?_⟩
    have y2 := y.new (o := .lst []) hl
    have kd2 := kd.trans (Kd.new (o := .lst []) y.s hl)
    refine ⟨_, _, .lst (SqL.of y2.b) (ints_dp bs1), .lst (SqL.of upd_same) .nil, intsL_shaped bs1, by decide +kernel, _, rfl, ?_⟩
    rw [eqv_nil]
    cases bs1 with
    | cons b0 br =>
      refine iteT ?_
      refine ⟨_, rfl, st, _, _, V.ref bl1, rfl, rfl, SqL.of y2.s, rfl, bl1, _, _, V.int b0, rfl, rfl, SqL.of y2.b, atI_in (by decide) rfl, ?_⟩
      refine .inl ⟨_, rfl, ?_⟩
      refine ⟨_, rfl, _, _, rfl, rfl, (by show size ≠ 0; omega), ?_⟩
      obtain ⟨k0, k1⟩ := fmod_in (i := b0) hl0
      refine ⟨_, rfl, st, _, _, V.ref bl1, rfl, rfl, SqL.of y2.s, rfl, bl1, _, _, V.int b0, rfl, rfl, SqL.of y2.b, atI_in (by decide) rfl, ?_⟩
      refine ⟨_, rfl, _, _, rfl, rfl, wide_div (b := 64) hl0 (by omega) (by decide) (by decide), ?_⟩
      refine ⟨_, rfl, st, _, _, V.ref bl1, rfl, rfl, SqL.of y2.s, rfl, ?_⟩
      refine ⟨bl1, _, _, 0, rfl, rfl, y2.b, by show ixN _ 0 = some 0; unfold ixN; rw [if_pos (by decide), if_pos (by simp)]; rfl, ?_⟩
      refine ⟨_, rfl, ?_⟩
      have y3 := y2.bl (cs := b0 / size :: br)
      exact k _ _ k0 k1 ⟨bl1, cl, c + 1, _, ns, y3, by omega, by push_cast; omega, by simp at hb1 ⊢; omega, hn0, hn⟩ (kd2.trans (Kd.bl y2))
    | nil =>
      refine iteF ?_
      have r1 : ∀ i : Int, 0 ≤ i.fmod 2147483647 ∧ i.fmod 2147483647 < 2147483647 := fun i => fmod_in (by decide)
      refine ⟨_, rfl, st, _, _, V.ref cl, rfl, rfl, SqL.of y2.s, rfl, ?_⟩
      refine ⟨_, rfl, st, _, _, V.int (c + 1), rfl, rfl, SqL.of y2.s, rfl, .inl ⟨_, rfl, ?_⟩⟩
      refine ⟨_, rfl, st, _, _, V.ref cl, rfl, rfl, SqL.of y2.s, rfl, ?_⟩
      refine ⟨cl, _, rfl, .inl (SqL.of y2.k), ?_⟩
      have hL : (((ns.map V.int).length : Nat) : Int) = (ns.length : Int) := by rw [List.length_map]
      rw [hL]
      refine ⟨_, _, rfl, rfl, (by show (ns.length : Int) ≠ 0; omega), ?_⟩
      obtain ⟨i0, i1⟩ := fmod_in (i := c + 1) (j := (ns.length : Int)) (by omega)
      obtain ⟨at_, hat⟩ : ∃ a, a = (c + 1).fmod (ns.length : Int) := ⟨_, rfl⟩
      rw [← hat] at i0 i1
      obtain ⟨z, hz1, hz2⟩ := getD_int (ns := ns) (k := at_) i0 i1
      refine ⟨cl, _, at_, V.int z, rfl, (by show V.int _ = V.int _; rw [hat]), SqL.of y2.k, atI_in i0 hz1, ?_⟩
      refine .inl ⟨_, rfl, ?_⟩
      refine ⟨_, _, rfl, rfl, (by show (_ : Int) ≠ 0; decide), ?_⟩
      obtain ⟨y1, hy1⟩ : ∃ y, y = z.fmod 2147483647 := ⟨_, rfl⟩
      obtain ⟨q1, q2⟩ := r1 z
      rw [← hy1] at q1 q2
      rw [show (fun i j => V.int (Int.fmod i j)) z 2147483647 = V.int y1 by rw [hy1]]
      refine ⟨_, rfl, _, _, rfl, rfl, .inl ⟨by omega, by omega⟩, ?_⟩
      refine ⟨_, rfl, st, _, _, V.int (c + 1), rfl, rfl, SqL.of y2.s, rfl, _, _, rfl, rfl, .inl ⟨by omega, by omega⟩, ?_⟩
      refine ⟨_, _, rfl, rfl, _, _, rfl, rfl, ?_⟩
      refine ⟨_, _, rfl, rfl, ⟨by decide, by decide, ?_⟩, .inl ⟨_, rfl, ?_⟩⟩
      · show (y1 * 48271 + (c + 1) * 69621 + 7).natAbs < 2 ^ 64
        omega
      refine ⟨_, _, rfl, rfl, (by show (_ : Int) ≠ 0; decide), ?_⟩
      obtain ⟨q3, q4⟩ := r1 ((y1 * 48271 + (c + 1) * 69621 + 7) ^ (5 : Int).toNat)
      obtain ⟨y3, hy3⟩ : ∃ y, y = ((y1 * 48271 + (c + 1) * 69621 + 7) ^ (5 : Int).toNat).fmod 2147483647 := ⟨_, rfl⟩
      rw [← hy3] at q3 q4
      rw [show (fun i j => V.int (Int.fmod i j)) ((y1 * 48271 + (c + 1) * 69621 + 7) ^ (5 : Int).toNat) 2147483647 = V.int y3 by rw [hy3]]
      refine ⟨_, rfl, _, _, rfl, rfl, .inl ⟨by omega, by omega⟩, ?_⟩
      refine ⟨_, rfl, st, _, _, V.int (c + 1), rfl, rfl, SqL.of y2.s, rfl, _, _, rfl, rfl, .inl ⟨by omega, by omega⟩, ?_⟩
      refine ⟨_, _, rfl, rfl, _, _, rfl, rfl, ?_⟩
      refine ⟨_, _, rfl, rfl, ⟨by decide, by decide, ?_⟩, .inl ⟨_, rfl, ?_⟩⟩
      · show (y3 * 16807 + (c + 1) * 40692 + 13).natAbs < 2 ^ 64
        omega
      refine ⟨_, _, rfl, rfl, (by show (_ : Int) ≠ 0; decide), ?_⟩
      refine ⟨_, rfl, _, _, rfl, rfl, (by show size ≠ 0; omega), ?_⟩
      obtain ⟨k0, k1⟩ := fmod_in (i := ((y3 * 16807 + (c + 1) * 40692 + 13) ^ (5 : Int).toNat).fmod 2147483629) hl0
      exact k _ _ k0 k1 ⟨bl1, cl, c + 1, _, ns, y2, by omega, by push_cast; omega, hb1, hn0, hn⟩ kd2
abbrev nStartD : List Str := ["_law_script", "_law_cell"]
theorem scStartD : FnScope nStartD ["_law_script"] (defScope sStart) := ⟨rfl, rfl, rfl, by decide +kernel, rfl, by decide +kernel, by decide +kernel⟩
theorem ok_startD {f : Addr} {fd : FuncData} (F : Fun K "_law_start" "_law_start" sStart f fd) (T : BiD mg) : FnOk P w K mg base CX0 1 f fd ["_law_script"] (spStartD K) := by
  refine F.ok scStartD (fun vs H Q E h => ?_) (fun cdv A outer s H vs Q E hr h => ?_)
  · obtain ⟨a, ns, rfl, _⟩ := h
    rfl
  · obtain ⟨a, ns, rfl, hS, hn, k⟩ := h
    refine ⟨_, pss_one (ps_ret (pe_lst (pa_cons (pe_lc (own := [("_law_cell", 1)]) (g := gName 1) rfl scStartD.nd (pi_list (pv 0)) (blkOk_by (own := [("_law_cell", 1)]) (N := nStartD) (sc := defScope sStart) (by decide +kernel))
        (fun _ _ _ _ _ => pg_name (i := 1) scStartD.nd rfl (Or.inl rfl)) (fun _ _ _ _ _ => pts_one (pt_cmpR op_ge (pe_callB call_abs (by rfl) T.abs (by decide +kernel) (pa_cons (pv 1) pa_nil)) (pe_op op_pow pe_int pe_int) (nomark _)))
        (fun _ _ _ _ _ => pe_callB call_abs (by rfl) T.abs (by decide +kernel) (pa_cons (pv 1) pa_nil)))
      (pa_cons (pe_op op_cat (pe_callTy call_list_of (by rfl) T.list (by decide +kernel) (pa_cons (pv 0) pa_nil)) (pe_lst (pa_cons pe_int pa_nil))) (pa_cons pe_int pa_nil))))), ?_⟩
    refine ⟨_, rfl, a, rfl, ⟨_, hS⟩, fun D hD => lc_list (K := K) (a := a) (xs := ns.map V.int) (fun i H' => Same H H' ∧ ∃ bs : List Int, H' D = some (.lst (bs.map V.int)) ∧ bs.length ≤ i) ⟨?_, [], ?_, ?_⟩ (fun i H' _ h => h.1.seq hS) ?_ ?_⟩
    · intro b o e
      rw [upd_ne (ne_of_none e hD)]
      exact e
    · rw [upd_same]
      rfl
    · exact Nat.le_refl _
    · intro i x H' hi ⟨s1, bs, s2, s3⟩
      obtain ⟨z, hz, rfl⟩ : ∃ z, ns[i]? = some z ∧ x = V.int z := by
        rw [List.getElem?_map] at hi
        cases e : ns[i]? with
        | none => rw [e] at hi; cases hi
        | some z => rw [e] at hi; exact ⟨z, rfl, (Option.some.inj hi).symm⟩
      have hil : i < ns.length := (List.getElem?_eq_some_iff.mp hz).1
      refine ⟨rfl, ?_⟩
      refine ⟨_, rfl, _, rfl, _, _, rfl, rfl, ⟨by decide, by decide, by decide⟩, _, _, rfl, rfl, _, rfl, ?_⟩
      refine ite2 (fun _ => ?_) (fun _ => ?_)
      · refine ⟨_, rfl, _, rfl, ?_⟩
        refine ⟨_, s2, ?_, ?_, bs ++ [if z < 0 then -z else z], ?_, ?_⟩
        · rw [List.length_map]
          exact small1000 (by omega)
        · intro b o e
          rw [upd_ne (ne_of_none e hD)]
          exact s1 b o e
        · rw [upd_same, List.map_append]
          rfl
        · rw [List.length_append]
          show bs.length + 1 ≤ i + 1
          omega
      · exact ⟨s1, bs, s2, by omega⟩
    · intro H' ⟨s1, bs, s2, s3⟩
      rw [List.length_map] at s3
      refine ⟨_, rfl, a, _, rfl, .inl (s1.seq hS), fun l hl => ?_⟩
      refine ⟨by show 1 ≤ sizeLine; decide, fun l2 hl2 => ?_⟩
      have e1 : (L2.upd (L2.upd H' l (.lst (ns.map V.int))) l2 (.lst [V.int 5])) l = some (.lst (ns.map V.int)) := by
        rw [upd_ne (ne_of_none (o := .lst (ns.map V.int)) upd_same hl2), upd_same]
      refine ⟨l, l2, _, _, rfl, rfl, e1, upd_same, ?_, fun p hp => ?_⟩
      · rw [List.length_map]
        show ns.length + 1 ≤ sizeLine
        exact Nat.le_of_lt (small1000 (by omega))
      refine ⟨by show 3 ≤ sizeLine; decide, fun st hst => ?_⟩
      have hlt : ∀ b o, H' b = some o → b ≠ l ∧ b ≠ l2 ∧ b ≠ p ∧ b ≠ st := by
        intro b o e
        have n1 := ne_of_none e hl
        have e2 : (L2.upd H' l (.lst (ns.map V.int))) b = some o := by rw [upd_ne n1]; exact e
        have n2 := ne_of_none e2 hl2
        have e3 : (L2.upd (L2.upd H' l (.lst (ns.map V.int))) l2 (.lst [V.int 5])) b = some o := by rw [upd_ne n2]; exact e2
        have n3 := ne_of_none e3 hp
        have e4 : (L2.upd (L2.upd (L2.upd H' l (.lst (ns.map V.int))) l2 (.lst [V.int 5])) p (.lst (ns.map V.int ++ [V.int 5]))) b = some o := by rw [upd_ne n3]; exact e3
        exact ⟨n1, n2, n3, ne_of_none e4 hst⟩
      have hps : p ≠ st := ne_of_none upd_same hst
      obtain ⟨d1, d2, d3, d4⟩ := hlt D _ s2
      have x : Sx (L2.upd (L2.upd (L2.upd (L2.upd H' l (.lst (ns.map V.int))) l2 (.lst [V.int 5])) p (.lst (ns.map V.int ++ [V.int 5]))) st (.lst [.ref D, .ref p, .int 0])) st D p 0 bs (ns ++ [5]) := by
        refine ⟨upd_same, ?_, ?_, d4.symm, hps.symm, d3⟩
        · rw [upd_ne d4, upd_ne d3, upd_ne d2, upd_ne d1]
          exact s2
        · rw [upd_ne hps, upd_same, List.map_append]
          rfl
      have keep : ∀ b o, H b = some o → b ≠ D ∧ (L2.upd (L2.upd (L2.upd (L2.upd H' l (.lst (ns.map V.int))) l2 (.lst [V.int 5])) p (.lst (ns.map V.int ++ [V.int 5]))) st (.lst [.ref D, .ref p, .int 0])) b = some o ∧ b ≠ st := by
        intro b o e
        obtain ⟨n1, n2, n3, n4⟩ := hlt b o (s1 b o e)
        refine ⟨ne_of_none e hD, ?_, n4⟩
        rw [upd_ne n4, upd_ne n3, upd_ne n2, upd_ne n1]
        exact s1 b o e
      have hstn : H st = none := by
        cases e : H st with
        | none => rfl
        | some o => exact absurd rfl (keep st o e).2.2
      refine k st _ ⟨D, p, 0, bs, ns ++ [5], x, by decide, by decide, by omega, by simp, by simp; omega⟩ (fun b o e => (keep b o e).2.1) hstn (fun b o e => ⟨(keep b o e).2.1, (keep b o e).2.2, fun ⟨y, z, r, e2, t⟩ => ?_⟩)
      rw [x.s] at e2
      cases e2
      rcases t with t | t <;> cases t
      · exact (keep _ o e).1 rfl
      · exact (hlt _ o (s1 _ o e)).2.2.1 rfl
end
end OS
namespace OS
open PySem PySem.Spec PySem.W PySem.Calls PyProof.Rows PySem.HandSPX
open Builtin Builtin.ObjectAttr
section
variable {M : Model} {A : Around} {E : Value → Shared → Prop} {h : Heap} {g : Array GenState} {d : Drawn} {t : Nat} {os : OsState}
variable {nm q : Str} {C N : Addr} {bs bm bmB : List Value} {hdct : Bool} {sn : List Str} {sub : List Value} {ab : Bool} {col : Option Bool} {dd : Option Addr} {k0 k1 k2 k3 k5 : Option Value} {B newId initId : String}
theorem check_new_kw (F : ExcBaseFacts B newId initId bmB) (hT : ∀ X : String, bm.contains (.type X) = bmB.contains (.type X)) {rest : List Value} {kw : List (Str × Value)} {Q : Unit → Shared → Prop}
    (hC : h.get? C = some (excClassObj nm q C N bs bm hdct sn sub ab col dd k0 k1 k2 k3 k5 newId)) (hq : Q () ⟨h, g, d, t, os⟩) : wpAny M A (checkBuiltinCall newId ⟨.ref C :: rest, kw⟩) Q E ⟨h, g, d, t, os⟩ := by
  have hcont : (Value.ref C :: bm).contains (.type B) = true := by rw [List.contains_cons, hT, F.hasB, Bool.or_true]
  have hstar := F.noStar
  simp only [checkBuiltinCall, F.newKind, F.newSplit, F.newRow]
  repeat (first | refine wpAny_loadPart_at hC ?_ | (refine wpAny_isSubtype_exc hC ?_; rw [hcont]) | refine wpAny_staticBase_exc hC ?_ | refine wpAny_madeBy_exc hC ?_ | simp only [bne_self_eq_false, Bool.false_eq_true, if_false] | wp_step)
  exact hq
theorem check_type_kw {rest : List Value} {kw : List (Str × Value)} {Q : Unit → Shared → Prop} (hC : h.get? C = some (excClassObj nm q C N bs bm hdct sn sub ab col dd k0 k1 k2 k3 k5 newId))
    (hq : Q () ⟨h, g, d, t, os⟩) : wpAny M A (checkBuiltinCall "type.__call__" ⟨.ref C :: rest, kw⟩) Q E ⟨h, g, d, t, os⟩ := by
  have f3 := tc_sub
  have hT : (⟨h, g, d, t, os⟩ : Shared).TypeIs (.ref C) "type" := ⟨_, hC, rfl⟩
  simp only [checkBuiltinCall, tc_kind, tc_split]
  repeat (any_goals (first | assumption | with_reducible refine wpAny_loadPart_at hC ?_ | with_reducible refine wpAny_onRaise ?_ | with_reducible refine wpAny_map ?_ | wp_step))
end
section
variable {prog : Program} {w : World} {A : Around} {E : Value → Shared → Prop} {R : Result → Shared → Prop} {h : Heap} {g : Array GenState} {d : Drawn} {t : Nat} {os : OsState}
variable {nm q : Str} {C N : Addr} {bs bm bmB : List Value} {hdct : Bool} {sn : List Str} {sub : List Value} {ab : Bool} {col : Option Bool} {dd : Option Addr} {k0 k1 k2 k3 k5 : Option Value} {B newId initId : String}
theorem new_kw (F : ExcBaseFacts B newId initId bmB) (hT : ∀ X : String, bm.contains (.type X) = bmB.contains (.type X)) {rest : List Value} {kw : List (Str × Value)}
    (hC : h.get? C = some (excClassObj nm q C N bs bm hdct sn sub ab col dd k0 k1 k2 k3 k5 newId))
    (hq : R (.ok (.ret (.ref (h.objs.size + 1)))) ⟨(h.push { cls := .type "tuple", data := .seq rest.toArray }).push
      { cls := .ref C, data := .fields #[.ref h.objs.size, .none, .none, .none, .bool false, .none] }, g, d, t, os⟩) (hrest : rest.length ≤ sizeLine) :
    codeAny (model prog w) A (.builtin newId ⟨.ref C :: rest, kw⟩) R ⟨h, g, d, t, os⟩ := by
  have hends := F.ends
  have hcB : (Value.ref C :: bm).contains (.type B) = true := by rw [List.contains_cons, hT, F.hasB, Bool.or_true]
  have hcA : (Value.ref C :: bm).contains (.type "AttributeError") = false := by rw [List.contains_cons, hT, F.noAttr]; rfl
  have hcN : (Value.ref C :: bm).contains (.type "NameError") = false := by rw [List.contains_cons, hT, F.noName]; rfl
  refine codeAny_builtinAt F.entry ?_
  unfold Builtin.«BaseException.__new__»
  refine PyProof.Rows.wpAt_bind ?_
  show PyProof.Rows.wpAt _ _ _ (stack >>= _) _ _ _
  refine PyProof.Rows.wpAt_bind (PyProof.Rows.wpAt_stack fun p below => wpAt_of_wpAny ?_)
  wp_walk
  refine wpAt_of_wpAny ?_
  rw [F.owner]
  repeat (first | with_reducible refine wpAny_madeHere_exc F.canon hC ?_ | with_reducible refine wpAny_loadPart_at hC ?_ | (with_reducible refine wpAny_isSubtype_exc hC ?_; first | rw [hcB] | rw [hcA] | rw [hcN]) | wp_step)
  show R _ _
  rw [Heap.size_push]
  exact hq
theorem type_call_kw (F : ExcBaseFacts B newId initId bmB) (hT : ∀ X : String, bm.contains (.type X) = bmB.contains (.type X)) {rest : List Value} {kw : List (Str × Value)} {fI : Addr} {Q : Fin → Shared → Prop}
    (hC : h.get? C = some (excClassObj nm q C N bs bm hdct sn sub ab col dd k0 k1 k2 k3 k5 newId))
    (hi : W.Looks (model prog w) h (typeLookup (.ref C) "__init__") (some (.ref fI))) (hb : ∀ self, W.Looks (model prog w) h (bindSpecial (.ref fI) self) (.ref fI, [self])) (hrest : rest.length ≤ sizeLine)
    (hq : codeAny (model prog w) A (.call (.ref fI) ⟨.ref (h.objs.size + 1) :: rest, kw⟩)
      (fun r s' => match r with | .ok (.ret v) => v = .none ∧ Q (.done (.ret (.ref (h.objs.size + 1)))) s' | .ok _ => False | .error e => E e s')
      ⟨(h.push (W.kdv_tup rest)).push (excO C h.objs.size), g, d, t, os⟩) :
    wpAny (model prog w) A (Builtin.«type.__call__» ⟨.ref C :: rest, kw⟩) Q E ⟨h, g, d, t, os⟩ := by
  repeat (first | with_reducible refine wpAny_loadPart_at hC ?_ | with_reducible refine wpAny_madeBy_exc hC ?_ | wp_step)
  refine codeAny_call_builtin_code (Code.quiet_builtin _ F.quiet) (check_new_kw F hT hC ?_)
  refine new_kw F hT hC ?_ hrest
  show wpAny _ _ _ _ _ _
  have k : ∀ b o, h.get? b = some o → ((h.push (W.kdv_tup rest)).push (excO C h.objs.size)).get? b = some o := fun b o e => Heap.get?_push_of_some _ (Heap.get?_push_of_some _ e)
  have hC₁ := k _ _ hC
  have hget : ((h.push (W.kdv_tup rest)).push (excO C h.objs.size)).get? (h.objs.size + 1) = some (excO C h.objs.size) := by heap_get
  have hcC : (Value.ref C :: bm).contains (.ref C) = true := by simp
  have i1 := hi.keeps k
  have b1 := (hb (.ref (h.objs.size + 1))).keeps k
  unfold isInstance
  repeat (first | with_reducible refine wpAny_loadPart_at hget ?_ | (with_reducible refine wpAny_isSubtype_exc hC₁ ?_; rw [hcC]) | wp_step)
  show wpAny _ _ (typeLookup (.ref C) _) _ _ _
  refine i1.at ?_
  refine wpAny_holding (wpAny_bind (b1.at ?_))
  refine wpAny_bind (wpAny_call (codeAny_mono hq fun r s' z => ?_))
  rcases r with e | (v | _ | _ | _) <;> first | exact z | exact z.elim | skip
  obtain ⟨rfl, z⟩ := z
  first
    | exact wpAny_pure (wpAny_pure z)
    | (wp_walk; exact z)
theorem call_own_kw (F : ExcBaseFacts B newId initId bmB) (hT : ∀ X : String, bm.contains (.type X) = bmB.contains (.type X)) {rest : List Value} {kw : List (Str × Value)} {fI : Addr}
    (hC : h.get? C = some (excClassObj nm q C N bs bm hdct sn sub ab col dd k0 k1 k2 k3 k5 newId))
    (hi : W.Looks (model prog w) h (typeLookup (.ref C) "__init__") (some (.ref fI))) (hb : ∀ self, W.Looks (model prog w) h (bindSpecial (.ref fI) self) (.ref fI, [self])) (hrest : rest.length ≤ sizeLine)
    (hq : codeAny (model prog w) (A.under (.builtin "type.__call__" ⟨.ref C :: rest, kw⟩)) (.call (.ref fI) ⟨.ref (h.objs.size + 1) :: rest, kw⟩) (W.InitBack (h.objs.size + 1) R)
      ⟨(h.push (W.kdv_tup rest)).push (excO C h.objs.size), g, d, t, os⟩) :
    codeAny (model prog w) A (.call (.ref C) ⟨rest, kw⟩) R ⟨h, g, d, t, os⟩ := by
  have f1 := tc_lookup
  have f2 := tc_bind (.ref C)
  have hTy : (⟨h, g, d, t, os⟩ : Shared).TypeIs (.ref C) "type" := ⟨_, hC, rfl⟩
  refine codeAny_of_tree ?_
  show wpAny _ _ (callAny (.ref C) _) _ _ _
  repeat (any_goals (first | assumption | with_reducible refine wpAny_loadPart_at hC ?_ | wp_step))
  refine ⟨rfl, ?_⟩
  refine codeAny_call_builtin_at (Code.quiet_builtin _ (by decide +kernel)) entry_typeCall (check_type_kw hC (type_call_kw F hT hC hi hb hrest ?_))
  refine codeAny_mono hq fun r s' z => ?_
  rcases r with e | (v | _ | _ | _) <;> exact z
end
end OS
namespace OS
open PySem PySem.Spec PySem.Calls PyProof.Rows PySem.W
section
variable {prog : Program} {w : World} {A : Around} {E : Value → Shared → Prop} {s : Shared} {K : Frag} {x D : Addr} {ox od : Obj}
/-- e.__class__ of an error that has its own dict -/
theorem class_of_err {Q : Option Value → Shared → Prop} (hga : findIn K (.ref D) "__getattribute__" = some (some (.builtin "BaseException.__getattribute__"))) (hgt : findIn K (.ref D) "__getattr__" = some none) (hsub : subIn K (.ref D) (.type "BaseException") = some true)
    (hdct : hasDictIn K D = true) (ha : findIn K (.ref D) "__class__" = some (some (.builtin "object.__class__")))
    (hn : specialIn K (.builtin "object.__class__") "__get__" = some (some (.builtin "getset_descriptor.__get__"))) (htk : takesIn K (.builtin "object.__class__") = some true) (hm : mroIn K D (.type "object") = some true)
    (X : K.In s.heap) (I : InstAt s.heap x ox D (some od)) (h : Q (some (.ref D)) { s with toks := s.toks + 1 }) : wpAny (model prog w) A (getAttr? (.ref x) "__class__") Q E s := by
  have hf : findObj K D (some od) "__class__" = some (.bind (.builtin "getset_descriptor.__get__") (.builtin "object.__class__")) := findObj_data (by obtain ⟨cd, hc, _⟩ := any_some hdct; rw [hc]; rfl) ha hn htk
  obtain ⟨hp, g, d, t, os⟩ := s
  have L0 := I.type (M := model prog w)
  have L1 := looks_findIn (M := model prog w) X hga
  have L2 := looks_findIn (M := model prog w) X hgt
  have L3 := looks_find (M := model prog w) X I hf
  have sub : Looks (model prog w) hp (isInstance (.ref x) (.type "BaseException")) true := L0.andThen (looks_subIn X hsub)
  have hx0 : (false && onTheHeap (Value.builtin "BaseException.__getattribute__")) = false := rfl
  have hx2 : (Value.builtin "BaseException.__getattribute__" == Value.builtin "object.__getattribute__") = false := by decide +kernel
  have hx1 : (onTheHeap (Value.ref D) && Value.builtin "BaseException.__getattribute__" == Value.builtin "object.__getattribute__") = false := by rw [hx2]; rfl
  unfold getAttr? getAttrBy? getAttrBy
  refine wpAny_bind (wpAny_mkText (wpAny_bind (wpAny_attempt (wpAny_holding (wpAny_bind (L0.at (wpAny_bind (L1.at ?_))))))))
  show wpAny _ _ (if (onTheHeap (Value.ref D) && Value.builtin "BaseException.__getattribute__" == Value.builtin "object.__getattribute__") = true then _ else _) _ _ _
  rw [hx1, if_neg Bool.false_ne_true]
  unfold getAttrByItsOwn hookBefore
  refine wpAny_bind ?_
  rw [if_pos (show onTheHeap (Value.ref D) = true from rfl)]
  refine L2.at ?_
  refine wpAny_bind (wpAny_attempt (wpAny_holding ?_))
  unfold callGetattribute
  rw [hx0, if_neg Bool.false_ne_true]
  unfold boundAndCalled
  rw [PySem.F.excAttr_ValueError.ga.bind (.ref x)]
  refine wpAny_bind (wpAny_pure ?_)
  show wpAny _ _ (call (.builtin "BaseException.__getattribute__") [.ref x, .str "__class__" t]) _ _ _
  refine wpAny_call (codeAny_call_builtin PySem.F.excAttr_ValueError.ga.plain PySem.F.entry_bexc_ga ?_)
  refine @check_slot (model prog w) _ _ ⟨hp, g, d, t + 1, os⟩ "BaseException.__getattribute__" "BaseException" "__getattribute__" (.ref x) [.str "__class__" t] [] _ (by decide +kernel) (by decide +kernel) sub (PySem.F.args_bexc_ga (.ref x) (.str "__class__" t)) ?_
  unfold Builtin.«object.__getattribute__»
  refine wpAny_bind (wpAny_of_eq (a := ((Value.ref x : Value), [Value.str "__class__" t])) (by first | rfl | (simp only [slotArgs]; rfl)) ?_)
  refine wpAny_bind (wpAny_pure (wpAny_bind (L0.at (wpAny_bind (L3.at ?_)))))
  show wpAny _ _ (holding [Value.builtin "object.__class__"] (call (.builtin "getset_descriptor.__get__") [.builtin "object.__class__", .ref x, .ref D]) >>= ret) _ _ _
  refine wpAny_bind (wpAny_holding (wpAny_call (class_get (s := ⟨hp, g, d, t + 1, os⟩) (ox := ox) (od := some od) X I hm ?_)))
  refine wpAny_pure ?_
  show wpAny _ _ (handedOut (.ref D)) _ _ _
  rw [handedOut_of (v := .ref D) rfl]
  first
    | exact wpAny_pure (wpAny_pure h)
    | exact wpAny_pure h
    | exact wpAny_pure (wpAny_bind (wpAny_pure (wpAny_pure h)))
theorem kit_err (hga : findIn K (.ref D) "__getattribute__" = some (some (.builtin "BaseException.__getattribute__"))) (hgt : findIn K (.ref D) "__getattr__" = some none) (hsub : subIn K (.ref D) (.type "BaseException") = some true) (hdct : hasDictIn K D = true) (ha : findIn K (.ref D) "__class__" = some (some (.builtin "object.__class__")))
    (hn : specialIn K (.builtin "object.__class__") "__get__" = some (some (.builtin "getset_descriptor.__get__"))) (htk : takesIn K (.builtin "object.__class__") = some true) (hm : mroIn K D (.type "object") = some true) :
    KitX K (.ref x) (.ref D) (fun h => InstAt h x ox D (some od)) where
  ty := fun _ _ _ I => I.type
  it := fun _ _ X _ => by
    obtain ⟨cdD, hcD, _⟩ := any_some hdct
    unfold clsIn at hcD
    split at hcD
    · rename_i c' d' cd' sl' ho
      intro A' Q' E' s' k q
      unfold isType loadHead
      exact wpAny_bind (wpAny_loadPart (k _ _ (X _ _ ho)) (wpAny_pure q))
    · cases hcD
  ne := (handS_kitx_exc (x := x) (ox := ox) hga hgt hsub hdct ha hn htk hm).ne
  ca := fun X I k => class_of_err hga hgt hsub hdct ha hn htk hm X I k
end
end OS
namespace OS
open PySem L2 PySem.Spec PyProof.Rows
section
variable {X : Cx} {CX : CXT} {k n : Nat} {fI C : Addr} {fd : FuncData} {ps ks : List Str} {sp : Sp} {x : Str} {p pos : Pos} {e : Expr} {es : List Expr} {kws : List Keyword} {t tk : TA} {ds : List Value} {dvs : List V} {g : List Value → List Value → List Value} {gV : List V → List V → List V}
/-- C(e, ..), an own error with its own __init__, held as a value -/
def tMkV (C : Addr) (sp : Sp) (dvs : List V) (ta : TA) : TE := fun σ H Q => ta σ H fun vs H1 => vs.length ≤ 1000 ∧ ∀ a, H1 a = none → sp (.ref a :: (vs ++ dvs)) (L2.upd H1 a (exo a C none)) (fun v H2 => v = .non ∧ Q (.ref a) H2) (fun _ _ _ => False)
theorem pe_oex (T : OexC X.K C) (iC : PySem.W.findIn X.K (.ref C) "__init__" = some (some (.ref fI))) (tI : PySem.W.typeIn X.K (.ref fI) = some (.type "function"))
    (F1 : FnOk X.prog X.w X.K X.mg X.base CX k fI fd ps sp) (hr : Room (k + 1) X.A) (hb : Binds X.K fd ps ds) (hd : Vals dvs ds) (hx : Passes CX X (fun _ _ _ => False)) (hg : Gl X x) (hm : X.mg x = some (.ref C)) (ha : PA X (e :: es) t)
    (hdb : (x == ("__debug__" : Str)) = false := by decide) (he : starEach (e :: es) X.env = (false, eval e X.env) :: starEach es X.env := by rfl) (hpl : (backTo pos (starEach es X.env)).any (·.1) = false := by rfl) :
    PE X (.Call (.Name x p) (e :: es) [] pos) (tMkV C sp dvs t) := by
  refine ⟨fun pins s σ H Q I h => ?_⟩
  obtain ⟨nm, q, N, bs, bm, sn, sub, ab, col, dd, k0, k1, k2, k3, k5, hC, hbm⟩ := T.cls
  refine wpAny_Call_Name_kw (ld_glob I hg hm ?_ hdb)
  refine PySem.W.callWith_K (h₀ := X.base) I.ok.mod.kin T.kC (thn (ha.run pos pins s σ H _ I h) fun us s1 ⟨vs, H1, I1, r1, hz, q1⟩ => ⟨I1.kIn, ?_⟩) he hpl
  show wpAny _ _ (call (.ref C) us) _ _ _
  obtain ⟨hp, g, dr, tk, os⟩ := s1
  have hsz : hp.objs.size ≤ hp.objs.size + 1 := Nat.le_succ _
  have hn : H1 (hp.objs.size + 1) = none := I1.hok.fresh hsz
  have hq := q1 (hp.objs.size + 1) hn
  have kk : ∀ b o, hp.get? b = some o → ((hp.push (PySem.W.kdv_tup us)).push (PySem.HandSPX.excO C hp.objs.size)).get? b = some o := fun b o e => Heap.get?_push_of_some _ (Heap.get?_push_of_some _ e)
  have hget : ((hp.push (PySem.W.kdv_tup us)).push (PySem.HandSPX.excO C hp.objs.size)).get? (hp.objs.size + 1) = some (PySem.HandSPX.excO C hp.objs.size) := by heap_get
  have I2 : Inv X pins σ (L2.upd H1 (hp.objs.size + 1) (exo (hp.objs.size + 1) C none)) ⟨(hp.push (PySem.W.kdv_tup us)).push (PySem.HandSPX.excO C hp.objs.size), g, dr, tk, os⟩ :=
    I1.laid (t' := tk) (a := hp.objs.size + 1) (o := exo (hp.objs.size + 1) C none) (h' := (hp.push (PySem.W.kdv_tup us)).push (PySem.HandSPX.excO C hp.objs.size)) kk hsz (exo_ok hget)
  have r2 : Vals (V.ref (hp.objs.size + 1) :: (vs ++ dvs)) (Value.ref (hp.objs.size + 1) :: (us ++ ds)) := .cons rfl (r1.append hd)
  have hl : (Value.ref (hp.objs.size + 1) :: us ++ ds).length = ps.length := by
    have e := r2.length
    rw [F1.len _ _ _ _ hq] at e
    exact e.symm
  have hus : us.length ≤ sizeLine := by
    rw [← Paired.length r1, sizeLine_eq]
    omega
  refine wpAny_call (PySem.HandSPX.call_own F.excBase_ValueError (fun Y => PySem.HandSPX.refsVE_contains Y bm hbm) (I1.kIn _ _ hC) (PySem.W.looks_findIn I1.kIn iC) (fun self => PySem.W.bind_fn I1.kIn self tI) hus
    (codeAny_mono (F1.run _ X.stack _ _ ⟨Value.ref (hp.objs.size + 1) :: us, []⟩ (Value.ref (hp.objs.size + 1) :: (us ++ ds)) _ _ (fun _ _ _ => False) (hr.make C us []) (I2.env0.make C us []) (hb _ (Value.ref (hp.objs.size + 1) :: us) I2.kIn hl) r2 hq) fun r s' hq' => ?_))
  cases r with
  | error er => exact hx pins σ _ _ er s' I2 hq'
  | ok fl =>
    cases fl with
    | ret u =>
      obtain ⟨v, H', I3, rv, ev, q3⟩ := I2.after hq'
      subst ev
      exact ⟨rv, ⟨V.ref (hp.objs.size + 1), H', I3, rfl, q3⟩⟩
    | next => exact False.elim hq'
    | brk => exact False.elim hq'
    | cont => exact False.elim hq'
theorem run_oexK {pins : List (Addr × Obj)} {σ : L2.St} {H1 : Hp} {s1 : Shared} {Q : VK} {us ws : List Value} {vs zs : List V} (T : OexC X.K C) (iC : PySem.W.findIn X.K (.ref C) "__init__" = some (some (.ref fI))) (tI : PySem.W.typeIn X.K (.ref fI) = some (.type "function"))
    (F1 : FnOk X.prog X.w X.K X.mg X.base CX k fI fd ps sp) (hr : Room (k + 1) X.A) (hb : KBn X.K fd ps (n + 1) ks g gV) (hx : Passes CX X (fun _ _ _ => False)) (I1 : Inv X pins σ H1 s1) (r1 : Vals vs us) (rz : Vals zs ws) (l1 : vs.length = n) (l2 : zs.length = ks.length) (hz : vs.length ≤ 1000)
    (q1 : ∀ a, H1 a = none → sp (gV (.ref a :: vs) zs) (L2.upd H1 a (exo a C none)) (fun v H2 => v = .non ∧ Q (.ref a) H2) (fun _ _ _ => False)) :
    wpAny (model X.prog X.w) X.A (call (.ref C) us (ks.zip ws)) (EP X pins σ Q) X.xe s1 := by
  obtain ⟨nm, q, N, bs, bm, sn, sub, ab, col, dd, k0, k1, k2, k3, k5, hC, hbm⟩ := T.cls
  obtain ⟨hp, g', dr, tk, os⟩ := s1
  have hsz : hp.objs.size ≤ hp.objs.size + 1 := Nat.le_succ _
  have hn : H1 (hp.objs.size + 1) = none := I1.hok.fresh hsz
  have hq := q1 (hp.objs.size + 1) hn
  have kk : ∀ b o, hp.get? b = some o → ((hp.push (PySem.W.kdv_tup us)).push (PySem.HandSPX.excO C hp.objs.size)).get? b = some o := fun b o e => Heap.get?_push_of_some _ (Heap.get?_push_of_some _ e)
  have hget : ((hp.push (PySem.W.kdv_tup us)).push (PySem.HandSPX.excO C hp.objs.size)).get? (hp.objs.size + 1) = some (PySem.HandSPX.excO C hp.objs.size) := by heap_get
  have I2 : Inv X pins σ (L2.upd H1 (hp.objs.size + 1) (exo (hp.objs.size + 1) C none)) ⟨(hp.push (PySem.W.kdv_tup us)).push (PySem.HandSPX.excO C hp.objs.size), g', dr, tk, os⟩ :=
    I1.laid (t' := tk) (a := hp.objs.size + 1) (o := exo (hp.objs.size + 1) C none) (h' := (hp.push (PySem.W.kdv_tup us)).push (PySem.HandSPX.excO C hp.objs.size)) kk hsz (exo_ok hget)
  have r0 : Vals (V.ref (hp.objs.size + 1) :: vs) (Value.ref (hp.objs.size + 1) :: us) := .cons rfl r1
  have r2 := hb.rel r0 rz
  have n1 : (Value.ref (hp.objs.size + 1) :: us).length = n + 1 := by
    rw [List.length_cons, ← r1.length, l1]
  have hus : us.length ≤ sizeLine := by
    rw [← Paired.length r1, sizeLine_eq]
    omega
  refine wpAny_call (call_own_kw F.excBase_ValueError (fun Y => PySem.HandSPX.refsVE_contains Y bm hbm) (I1.kIn _ _ hC) (PySem.W.looks_findIn I1.kIn iC) (fun self => PySem.W.bind_fn I1.kIn self tI) hus
    (codeAny_mono (F1.run _ X.stack _ _ ⟨Value.ref (hp.objs.size + 1) :: us, ks.zip ws⟩ (g (Value.ref (hp.objs.size + 1) :: us) ws) _ _ (fun _ _ _ => False) (hr.make C us (ks.zip ws)) (I2.env0.make C us (ks.zip ws))
      (hb.to _ (Value.ref (hp.objs.size + 1) :: us) ws I2.kIn n1 (rz.length.symm.trans l2)) r2 hq) fun r s' hq' => ?_))
  cases r with
  | error er => exact hx pins σ _ _ er s' I2 hq'
  | ok fl =>
    cases fl with
    | ret u =>
      obtain ⟨v, H', I3, rv, ev, q3⟩ := I2.after hq'
      subst ev
      exact ⟨rv, ⟨V.ref (hp.objs.size + 1), H', I3, rfl, q3⟩⟩
    | next => exact False.elim hq'
    | brk => exact False.elim hq'
    | cont => exact False.elim hq'
def tMkVK (C : Addr) (n m : Nat) (sp : Sp) (gV : List V → List V → List V) (t tk : TA) : TE := fun σ H Q => t σ H fun vs H1 => tk σ H1 fun zs H2 => vs.length = n ∧ zs.length = m ∧ n ≤ 1000 ∧
  ∀ a, H2 a = none → sp (gV (.ref a :: vs) zs) (L2.upd H2 a (exo a C none)) (fun v H3 => v = .non ∧ Q (.ref a) H3) (fun _ _ _ => False)
theorem pe_oexK0 (T : OexC X.K C) (iC : PySem.W.findIn X.K (.ref C) "__init__" = some (some (.ref fI))) (tI : PySem.W.typeIn X.K (.ref fI) = some (.type "function"))
    (F1 : FnOk X.prog X.w X.K X.mg X.base CX k fI fd ps sp) (hr : Room (k + 1) X.A) (hb : KBn X.K fd ps 1 ks g gV) (hx : Passes CX X (fun _ _ _ => False)) (hg : Gl X x) (hm : X.mg x = some (.ref C)) (hkw : PK X kws tk)
    (hall : (backToKw pos (keywordEach kws X.env)).all (·.1.isSome) = true := by rfl) (hks : (backToKw pos (keywordEach kws X.env)).filterMap (·.1) = ks := by rfl) (hdb : (x == ("__debug__" : Str)) = false := by decide)
    (hpl : ((backTo pos (starEach [] X.env)).any (·.1) || (backToKw pos (keywordEach kws X.env)).any (·.1.isNone)) = false := by rfl) :
    PE X (.Call (.Name x p) [] kws pos) (tMkVK C 0 ks.length sp gV tNil tk) := by
  refine ⟨fun pins s σ H Q I h => ?_⟩
  refine wpAny_Call_Name_kw (ld_glob I hg hm ?_ hdb)
  refine PySem.W.callWith_KW0 (h₀ := X.base) I.ok.mod.kin T.kC hall ?_ hpl
  refine thn (hkw.run pos pins s σ H _ I h) fun ws s2 ⟨zs, H2, I2, rz, l1, l2, lz, q2⟩ => ⟨I2.kIn, ?_⟩
  rw [hks]
  exact run_oexK (n := 0) (us := []) (vs := []) T iC tI F1 hr hb hx I2 .nil rz rfl l2 (by decide) q2
theorem pe_oexK (T : OexC X.K C) (iC : PySem.W.findIn X.K (.ref C) "__init__" = some (some (.ref fI))) (tI : PySem.W.typeIn X.K (.ref fI) = some (.type "function"))
    (F1 : FnOk X.prog X.w X.K X.mg X.base CX k fI fd ps sp) (hr : Room (k + 1) X.A) (hb : KBn X.K fd ps (n + 1) ks g gV) (hx : Passes CX X (fun _ _ _ => False)) (hg : Gl X x) (hm : X.mg x = some (.ref C)) (ha : PA X (e :: es) t) (hkw : PK X kws tk)
    (hall : (backToKw pos (keywordEach kws X.env)).all (·.1.isSome) = true := by rfl) (hks : (backToKw pos (keywordEach kws X.env)).filterMap (·.1) = ks := by rfl) (hdb : (x == ("__debug__" : Str)) = false := by decide)
    (he : starEach (e :: es) X.env = (false, eval e X.env) :: starEach es X.env := by rfl) (hpl : ((backTo pos (starEach (e :: es) X.env)).any (·.1) || (backToKw pos (keywordEach kws X.env)).any (·.1.isNone)) = false := by rfl) :
    PE X (.Call (.Name x p) (e :: es) kws pos) (tMkVK C n ks.length sp gV t tk) := by
  refine ⟨fun pins s σ H Q I h => ?_⟩
  refine wpAny_Call_Name_kw (ld_glob I hg hm ?_ hdb)
  refine PySem.W.callWith_KW (h₀ := X.base) I.ok.mod.kin T.kC hall (thn (ha.run pos pins s σ H _ I h) fun us s1 ⟨vs, H1, I1, r, q⟩ => ?_) hpl he
  refine thn (hkw.run pos pins s1 σ H1 _ I1 q) fun ws s2 ⟨zs, H2, I2, rz, l1, l2, lz, q2⟩ => ⟨I2.kIn, ?_⟩
  rw [hks]
  exact run_oexK T iC tI F1 hr hb hx I2 r rz l1 l2 (by omega) q2
/-- X(), an own error without own __init__, as a value -/
theorem pe_exc0 {bmB : List Value} {B newId initId : String} (F : ExcBaseFacts B newId initId bmB) (q : PySem.W.excIn X.K C bmB newId = true) (gC : X.mg x = some (.ref C)) (kC : PySem.W.keepIn X.K (.ref C) = true) (hg : Gl X x)
    (hdb : (x == ("__debug__" : Str)) = false := by decide) :
    PE X (.Call (.Name x p) [] [] pos) (fun σ H Q => ∀ a, H a = none → Q (.ref a) (L2.upd H a (ExO (.ref C) a))) := by
  refine ⟨fun pins s σ H Q I h => ?_⟩
  refine wpAny_Call_Name_kw (ld_glob I hg gC ?_ hdb)
  refine PySem.W.callWith_K0 I.kIn kC ?_
  show wpAny _ _ (call (.ref C) []) _ _ _
  obtain ⟨bm, N, nm, qn, bs, hdct, sn, sub, ab, col, dd, k0, k1, k2, k3, k5, mN, hC, hN, hni, T⟩ := exc_obj I.kIn q
  refine wpAny_call_exc_subT F T hC hN hni (fun h' a hm => ?_) (by show 0 ≤ sizeLine; exact Nat.zero_le _)
  have hn : H a = none := I.hok.gone hm.new
  obtain ⟨t, ht, _, _⟩ := hm.there
  exact ⟨.ref a, L2.upd H a (ExO (.ref C) a), I.laidN hm.keeps hm.new hn (exO_ok ht ⟨rfl, rfl⟩ rfl rfl rfl (show 4 < 6 by decide)), rfl, h a hn⟩
/-- e.f of such a value -/
def tXv (C : Addr) (f : Str) (te : TE) : TE := fun σ H Q => te σ H fun x H1 => ∃ (a dd : Addr) (fs : List (Str × V)) (v : V), x = .ref a ∧ H1 a = some (exo a C (some dd)) ∧ H1 dd = some (exd dd fs) ∧ fs.lookup f = some v ∧ Q v H1
theorem pe_xv {e : Expr} {te : TE} {f : Str} (T : XfC X.K C) (hno : PySem.W.findIn X.K (.ref C) f = some none) (he : PE X e te) (hb : attributeBase e f X.env (eval e X.env) = eval e X.env := by rfl) : PE X (.Attribute e f pos) (tXv C f te) := by
  refine ⟨fun pins s σ H Q I h => ?_⟩
  refine attr_of hb (thn (he.run pins s σ H _ I h) fun u s1 hh => ?_)
  obtain ⟨x, H1, I1, rx, a, dd, fs, v, ex, ea, ed, l, q⟩ := hh
  subst ex
  obtain rfl : u = Value.ref a := rx
  obtain ⟨t1, ha⟩ := exo_at I1.hok ea
  obtain ⟨mA, hns, hr⟩ := exd_at I1.hok ed
  obtain ⟨od, ho, hl⟩ := lookIn_ns hns
  obtain ⟨u, hu, ru⟩ := RelO.some_of (v := v) (o := mA f) (by rw [← l]; exact hr f)
  have J : PySem.W.InstAt s1.heap a _ C (some od) := ⟨ha, rfl, rfl, ho⟩
  exact HandSPX.exc_get I1.kIn J T.ga T.gg T.exC (PySem.W.findObj_own T.hdC hno rfl (by rw [hl, hu])) (handed_of ru) ⟨v, H1, I1.tok _, ru, q⟩
/-- isinstance of such a value -/
def ErrV (H : Hp) (a D : Addr) : Prop := (∃ dd fs, H a = some (exo a D (some dd)) ∧ H dd = some (exd dd fs)) ∨ H a = some (ExO (.ref D) a)
def rIsV (K : PySem.W.Frag) : List V → Hp → VK → Prop := fun xs H Q => ∃ (a D : Addr) (c : V) (cv : Value) (b : Bool), xs = [.ref a, c] ∧ ErrV H a D ∧ ExcC K D ∧ (∀ u, RelV c u → u = cv) ∧ PySem.W.kitOne K (.ref D) cv = some b ∧ Q (.bl b) H
theorem call_isV : CallR X (.builtin "isinstance") (rIsV X.K) := by
  intro pins s σ H xs us Q I r h
  obtain ⟨a, D, c, cv, b, rfl, ev, C, hcv, e, q⟩ := h
  cases r with
  | cons rx rr =>
    cases rr with
    | cons rt rr =>
      cases rr
      cases rx
      have ec := hcv _ rt
      subst ec
      rcases ev with ⟨dd, fs, ea, ed⟩ | ea
      · obtain ⟨t1, ha⟩ := exo_at I.hok ea
        obtain ⟨mA, hns, hr⟩ := exd_at I.hok ed
        obtain ⟨od, ho, hl⟩ := lookIn_ns hns
        have J : PySem.W.InstAt s.heap a _ D (some od) := ⟨ha, rfl, rfl, ho⟩
        exact PySem.W.kia_one (kit_err C.hg C.hk C.hs C.hd C.ha C.hn C.ht C.hm) I.kIn J e (fun z => nomatch z) fun tk => ⟨.bl b, H, I.kept (t' := tk) fun _ _ z => z, rfl, q⟩
      · obtain ⟨⟨oe, vs, ho, hz, hd, h1, _⟩, _, _⟩ := I.hok a _ ea
        have J : PySem.W.InstAt s.heap a oe D none := by
          obtain ⟨oc, od, oda, osl⟩ := oe
          obtain ⟨h1, h2⟩ := hz
          dsimp only at h1 h2 hd
          subst h1 h2 hd
          exact ⟨ho, rfl, rfl, trivial⟩
        exact PySem.W.kia_one (PySem.W.handS_kitx_exc C.hg C.hk C.hs C.hd C.ha C.hn C.ht C.hm) I.kIn J e (fun z => nomatch z) fun tk => ⟨.bl b, H, I.kept (t' := tk) fun _ _ z => z, rfl, q⟩
end
end OS
namespace OS
open PySem L2 PySem.Spec PyProof.Rows
section
variable {X : Cx} {CX : CXT} {k : Nat} {f : Addr} {fd : FuncData} {ps ks : List Str} {sp : Sp} {E : L2.St → XK} {x : Str} {p pos : Pos} {kws : List Keyword} {tk : TA} {g : List Value → List Value → List Value} {gV : List V → List V → List V}
/-- f(k = v, ..): keywords only; what is raised is wished for at the caller's slots -/
def tCallKS (m : Nat) (sp : Sp) (gV : List V → List V → List V) (E : L2.St → XK) (tk : TA) : TE := fun σ H Q => tk σ H fun zs H1 => zs.length = m ∧ sp (gV [] zs) H1 Q (E σ)
theorem pe_callKS0 (F : FnOk X.prog X.w X.K X.mg X.base CX k f fd ps sp) (hr : Room k X.A) (hg : Gl X x) (hm : X.mg x = some (.ref f)) (hk : PySem.W.keepIn X.K (.ref f) = true) (hb : KBn X.K fd ps 0 ks g gV) (hx : ∀ σ, PassesAt CX X σ (E σ)) (hkw : PK X kws tk)
    (hall : (backToKw pos (keywordEach kws X.env)).all (·.1.isSome) = true := by rfl) (hks : (backToKw pos (keywordEach kws X.env)).filterMap (·.1) = ks := by rfl) (hdb : (x == ("__debug__" : Str)) = false := by decide)
    (hpl : ((backTo pos (starEach [] X.env)).any (·.1) || (backToKw pos (keywordEach kws X.env)).any (·.1.isNone)) = false := by rfl) :
    PE X (.Call (.Name x p) [] kws pos) (tCallKS ks.length sp gV E tk) := by
  refine ⟨fun pins s σ H Q I h => ?_⟩
  refine wpAny_Call_Name_kw (ld_glob I hg hm ?_ hdb)
  refine PySem.W.callWith_KW0 (h₀ := X.base) I.ok.mod.kin hk hall ?_ hpl
  refine thn (hkw.run pos pins s σ H _ I h) fun ws s2 ⟨zs, H2, I2, rz, l2, q2⟩ => ⟨I2.kIn, ?_⟩
  rw [hks]
  have r2 := hb.rel (vs := []) (us := []) .nil rz
  refine wpAny_call (codeAny_mono (F.run X.A X.stack s2 H2 ⟨[], ks.zip ws⟩ (g [] ws) (gV [] zs) Q (E σ) hr I2.env0 (hb.to s2 [] ws I2.kIn rfl (rz.length.symm.trans l2)) r2 q2) fun r s' hq => ?_)
  cases r with
  | error e => exact hx σ pins H2 s2 e s' I2 hq
  | ok fl =>
    cases fl with
    | ret u => exact I2.after hq
    | next => exact False.elim hq
    | brk => exact False.elim hq
    | cont => exact False.elim hq
end
/-! ### isinstance of a caught error with its own dict; a def called in an except suite -/
section
variable {X : Cx} {a D dd : Addr} {oe : Obj} {pn : List (Addr × Obj)}
def rIsEd (K : PySem.W.Frag) (cls : Value) (D a : Addr) (d : Option Addr) : List V → Hp → VK → Prop := fun xs H Q => ∃ (c : V) (cv : Value) (b : Bool), xs = [.ref a, c] ∧ cls = .ref D ∧ (∃ dd fs, d = some dd ∧ H dd = some (.xd fs)) ∧ (∀ u, RelV c u → u = cv) ∧ PySem.W.kitOne K (.ref D) cv = some b ∧ Q (.bl b) H
theorem call_isEd {cls : Value} {d : Option Addr} (C : ExcC X.K D) (hz : Zc cls d oe) (hf : ∃ vs, oe.data = .fields vs) : CallR (X.suite a ((a, oe) :: pn)) (.builtin "isinstance") (rIsEd X.K cls D a d) := by
  intro pins s σ H xs us Q I r h
  obtain ⟨c, cv, b, rfl, rfl, ⟨dd, fs, rfl, hd⟩, hcv, e, q⟩ := h
  cases r with
  | cons rx rr =>
    cases rr with
    | cons rt rr =>
      cases rr
      cases rx
      have ec := hcv _ rt
      subst ec
      obtain ⟨ha, _⟩ := I.pin (a, oe) (List.mem_append_left pins List.mem_cons_self)
      obtain ⟨vs, hdat⟩ := hf
      obtain ⟨mA, hns, hr⟩ := I.hok dd (HO.xd fs) hd
      obtain ⟨od, ho, hl⟩ := lookIn_ns hns
      have J : PySem.W.InstAt s.heap a oe D (some od) := by
        obtain ⟨oc, odd, oda, osl⟩ := oe
        obtain ⟨h1, h2⟩ := hz
        dsimp only at h1 h2 hdat
        subst h1 h2 hdat
        exact ⟨ha, rfl, rfl, ho⟩
      exact PySem.W.kia_one (kit_err C.hg C.hk C.hs C.hd C.ha C.hn C.ht C.hm) I.kIn J e (fun z => nomatch z) fun tk => ⟨.bl b, H, I.kept (t' := tk) fun _ _ z => z, rfl, q⟩
end
section
variable {P : Program} {w : World} {K : PySem.W.Frag} {mg : Str → Option Value} {base : Heap} {x qual : Str} {st : Stmt} {f : Addr} {fd : FuncData} {N ps : List Str} {k : Nat} {sp : Sp}
theorem okH (F : Fun K x qual st f fd) (S : FnScope N ps (defScope st)) (len : ∀ vs H Q E, sp vs H Q E → vs.length = ps.length)
    (hbody : ∀ (cdv : Value) (A : Around) (outer : List Env) (s : Shared) (H : Hp) (vs : List V) (Q : VK) (E : XK) (p : Addr × Obj), L2H.Hot1 A p → L2H.RoomH k (A.deeper (PyProof.Rows.envOfC qual (defScope st) s.heap.objs.size f cdv)) → sp vs H Q E →
      ∃ t, PSs (L2H.cxH CX0 P w K mg base N qual (defScope st) f cdv A outer s H E p) (defBody st) t ∧ t { nx := fun _ H' => Q .non H', rt := Q } (L2.start N vs) H) : L2H.FnH P w K mg base CX0 (k + 1) f fd ps sp := by
  obtain ⟨oc, od, kV, doc, pm, an, cdv, ct, osl, rfl, lk, hcd⟩ := F.ex
  exact L2H.fn_ofH lk hcd S len fun A outer s H vs Q E p h1 hr hsp => hbody cdv A outer s H vs Q E p h1 hr hsp
end
end OS
namespace OS
open PySem L2 PySem.Spec PyProof.Rows
/-! ### a def called where an exception may be handled: nothing leaves it -/
abbrev cxC (P : Program) (w : World) (K : PySem.W.Frag) (mg : Str → Option Value) (base : Heap) (N : List Str) (qual : Str) (scope : Scope) (f : Addr) (cd : Value) (A : Around) (outer : List Env) (s : Shared) (H : Hp) (E : XK) : Cx :=
  { cxOf CX0 P w K mg base N qual scope f cd A outer s H E with calm := false }
structure FnC (P : Program) (w : World) (K : PySem.W.Frag) (mg : Str → Option Value) (base : Heap) (k : Nat) (f : Addr) (fd : FuncData) (ps : List Str) (sp : Sp) : Prop where
  len : ∀ vs H Q E, sp vs H Q E → vs.length = ps.length
  run : ∀ (A : Around) (outer : List Env) (s : Shared) (H : Hp) (args : Args) (us : List Value) (vs : List V) (Q : VK) (E : XK), L2H.RoomH k A → Env0 P w K mg base A outer s H → BindsTo s fd args (ps.zip us) → Vals vs us → sp vs H Q E → codeAny (model P w) A (.call (.ref f) args) (CR CX0 outer P w H s Q E) s
section
variable {P : Program} {w : World} {K : PySem.W.Frag} {mg : Str → Option Value} {base : Heap} {x qual : Str} {st : Stmt} {f : Addr} {fd : FuncData} {N ps : List Str} {k : Nat} {sp : Sp}
theorem inv_startC {scope : Scope} {cd : Value} {A : Around} {outer : List Env} {s s1 : Shared} {H : Hp} {E : XK} {us : List Value} {vs : List V} (S : FnScope N ps scope) (e0 : Env0 P w K mg base A outer s H) (hl : vs.length = ps.length) (r : Vals vs us)
    (x : InCallC s s.heap.objs.size (bindL (PyProof.Rows.envOfC qual scope s.heap.objs.size f cd).kindOf (ps.zip us) fun _ => none) (cellsFrom (s.heap.objs.size + 1) scope.names []) (bindC (PyProof.Rows.envOfC qual scope s.heap.objs.size f cd).kindOf (ps.zip us) fun _ => none) s1) :
    Inv (cxC P w K mg base N qual scope f cd A outer s H E) [] (L2.start N vs) H s1 := by
  have e1 : Env0 P w K mg base { A with handled := none } outer s H := ⟨e0.frames, e0.mod, e0.bs, e0.bsz, e0.funs, e0.frf, e0.hok, e0.bare⟩
  have J := inv_start (CX := CX0) (A := { A with handled := none }) (E := E) S rfl e1 hl r x
  exact ⟨⟨J.ok.mod, J.ok.kind, J.ok.glob, J.ok.blt, J.ok.above, J.ok.inj, J.ok.has, J.ok.cab, fun z => Bool.noConfusion z, Around.frames_deeper e0.frames, J.ok.stk, J.ok.exf, J.ok.bs, J.ok.bsz, J.ok.noex, J.ok.exfs, J.ok.funs, J.ok.frf⟩,
    J.os, J.bare, J.base, J.loc, J.cell, J.free, J.freeC, J.pin, J.hok, J.len⟩
theorem Fun.okC (F : Fun K x qual st f fd) (S : FnScope N ps (defScope st)) (len : ∀ vs H Q E, sp vs H Q E → vs.length = ps.length)
    (hbody : ∀ (cdv : Value) (A : Around) (outer : List Env) (s : Shared) (H : Hp) (vs : List V) (Q : VK) (E : XK), L2H.RoomH k (A.deeper (PyProof.Rows.envOfC qual (defScope st) s.heap.objs.size f cdv)) → sp vs H Q E →
      ∃ t, PSs (cxC P w K mg base N qual (defScope st) f cdv A outer s H E) (defBody st) t ∧ t { nx := fun _ H' => Q .non H', rt := Q } (L2.start N vs) H) : FnC P w K mg base (k + 1) f fd ps sp := by
  obtain ⟨oc, od, kV, doc, pm, an, cdv, ct, osl, rfl, lk, hcd⟩ := F.ex
  refine ⟨len, fun A outer s H args us vs Q E hr e0 hb r hsp => ?_⟩
  have hl := len vs H Q E hsp
  have KX := PySem.W.Frag.In.keeps e0.mod.kin fun b o e => (e0.bs b o e).left
  have lim := Heap.NoLimit.keeps e0.mod.nolimit fun b o e => (e0.bs b o e).left
  have hkind : ∀ y ∈ ps.zip us, List.lookup y.1 (defScope st).names = some NameKind.local ∨ List.lookup y.1 (defScope st).names = some NameKind.cell ∧ (List.lookup y.1 (cellsFrom (s.heap.objs.size + 1) (defScope st).names [])).isSome = true := by
    rintro ⟨n, v⟩ hy
    rcases S.par n (List.of_mem_zip hy).left with q | q
    · exact .inl q
    · exact .inr ⟨q, PySem.W.cellsFrom_some (defScope st).names (s.heap.objs.size + 1) [] (Or.inl q)⟩
  refine codeAny_call_function (L2H.RoomH.depth hr) (KX f _ lk) rfl S.co S.gen rfl (PySem.W.codeRec_of KX hcd) (hb (model P w) A.in1 _ _ ?_)
  refine wpAny_newFunctionEnv_cells S.kind hkind fun env he s1 x => ?_
  subst he
  refine ⟨Heap.NoLimit.keeps lim x.toInCall.keep, codeAny_func ?_⟩
  obtain ⟨t, ht, hq⟩ := hbody cdv A outer s H vs Q E (L2H.RoomH.deeper hr (PyProof.Rows.envOfC qual (defScope st) s.heap.objs.size f cdv)) hsp
  have I := inv_startC (E := E) S e0 hl r x
  refine wpAny_mono (ht.run [] s1 (L2.start N vs) H { nx := fun _ H' => Q V.non H', rt := Q } I hq) (fun fl s' hs => ?_) fun e s' hs => hs
  have fin : ∀ {σ' : L2.St} {H' : Hp} {v : V} {u : Value}, Inv (cxC P w K mg base N qual (defScope st) f cdv A outer s H E) [] σ' H' s' → RelV v u → Q v H' → CR CX0 outer P w H s Q E (.ok (.ret u)) s' := fun {σ' H' v u} J rv q => ⟨v, H', J.os, J.bare, J.base, J.hok, rv, q⟩
  cases fl with
  | next => obtain ⟨σ', H', J, q⟩ := hs; exact fin (v := .non) (u := .none) J rfl q
  | brk => obtain ⟨_, _, _, q⟩ := hs; exact False.elim q
  | cont => obtain ⟨_, _, _, q⟩ := hs; exact False.elim q
  | ret u => obtain ⟨v, σ', H', J, rv, q⟩ := hs; exact fin J rv q
end
section
variable {X : Cx} {k : Nat} {f : Addr} {fd : FuncData} {ps : List Str} {sp : Sp} {x : Str} {p pos : Pos} {e : Expr} {es : List Expr} {t : TA}
theorem pe_callC (F : FnC X.prog X.w X.K X.mg X.base k f fd ps sp) (hr : L2H.RoomH k X.A) (hg : Gl X x) (hm : X.mg x = some (.ref f)) (hk : PySem.W.keepIn X.K (.ref f) = true) (hb : Binds X.K fd ps []) (ha : PA X (e :: es) t)
    (hdb : (x == ("__debug__" : Str)) = false := by decide) (he : starEach (e :: es) X.env = (false, eval e X.env) :: starEach es X.env := by rfl) (hpl : (backTo pos (starEach es X.env)).any (·.1) = false := by rfl) :
    PE X (.Call (.Name x p) (e :: es) [] pos) (fun σ H Q => t σ H fun vs H1 => sp vs H1 Q E0) := by
  refine ⟨fun pins s σ H Q I h => ?_⟩
  refine wpAny_Call_Name_kw (ld_glob I hg hm ?_ hdb)
  refine PySem.W.callWith_K (h₀ := X.base) I.ok.mod.kin hk (thn (ha.run pos pins s σ H _ I h) fun us s1 ⟨vs, H1, I1, r, q⟩ => ⟨I1.kIn, ?_⟩) he hpl
  have hl : (us ++ []).length = ps.length := by rw [List.append_nil, ← r.length, F.len _ _ _ _ q]
  have b := hb s1 us I1.kIn hl
  rw [List.append_nil] at b
  refine wpAny_call (codeAny_mono (F.run X.A X.stack s1 H1 ⟨us, []⟩ us vs Q E0 hr I1.env0 b r q) fun r s' hq => ?_)
  cases r with
  | error e => exact False.elim hq
  | ok fl =>
    cases fl with
    | ret u => exact I1.after hq
    | next => exact False.elim hq
    | brk => exact False.elim hq
    | cont => exact False.elim hq
end
end OS
namespace OS
open PySem L2
/-! ### an own error with one field -/
/-- what the head knows of the class of an error at C, its __init__ at fI -/
structure ErrC (K : PySem.W.Frag) (mg : Str → Option Value) (x : Str) (C fI : Addr) (fld : Str) : Prop where
  mg : mg x = some (.ref C)
  ox : OexC K C
  iC : PySem.W.findIn K (.ref C) "__init__" = some (some (.ref fI))
  tI : PySem.W.typeIn K (.ref fI) = some (.type "function")
  no : PySem.W.findIn K (.ref C) fld = some none
  xf : XfC K C
  te : PySem.W.exmOne K (.ref C) (.ref C) = some true
/-- its __init__(self, y) -/
def spE (K : PySem.W.Frag) (C : Addr) (fld : Str) : Sp := fun vs H Q _ => ∃ (a : Addr) (y : V), vs = [.ref a, y] ∧ H a = some (exo a C none) ∧
  ∀ dx, H dx = none → dx ≠ a → Q .non (L2.upd (L2.upd H dx (exd dx [(fld, y)])) a (exo a C (some dx)))
/-- a made error's end: the heap has got its dict and nothing else -/
theorem made_heap {H : Hp} {a d : Addr} {fs : List (Str × V)} {o1 o2 : HO} (na : H a = none) (hd : d ≠ a) : ∀ b, (L2.upd (L2.del (L2.upd (L2.upd (L2.upd H a o1) d (exd d fs)) a o2) a) d (.xd fs)) b = (L2.upd H d (.xd fs)) b := by
  intro b
  by_cases h1 : b = d
  · rw [h1, upd_same, upd_same]
  · rw [upd_ne h1, upd_ne h1]
    by_cases h2 : b = a
    · rw [h2, del_same, na]
    · rw [del_ne h2, upd_ne h2, upd_ne h1, upd_ne h2]
end OS
namespace OS
open PySem L2 PySem.Spec PyProof.Rows
theorem kit_ref {K : PySem.W.Frag} {a c : Addr} {b : Bool} (hd : PySem.W.hasDictIn K c = true) (ty : PySem.W.typeIn K (.ref c) = some (.type "type")) (hself : PySem.W.subIn K (.ref c) (.ref c) = some true) (h : PySem.W.subIn K (.ref a) (.ref c) = some b) :
    PySem.W.kitOne K (.ref a) (.ref c) = some b := by
  unfold PySem.W.kitOne
  by_cases e : a = c
  · subst e
    rw [h] at hself
    cases hself
    rw [if_pos (by simp)]
  · rw [if_neg (by simpa using e)]
    obtain ⟨cd, hc, _⟩ := PySem.W.any_some hd
    show (if ((PySem.W.clsIn K c).isSome && PySem.W.typeIn K (.ref c) == some (.type "type")) = true then PySem.W.subIn K (.ref a) (.ref c) else none) = some b
    rw [if_pos (by rw [hc, ty] <;> rfl)]
    exact h
theorem kit_val {K : PySem.W.Frag} {a : Addr} (h : PySem.W.subIn K (.ref a) (.type "ValueError") = some true) : PySem.W.kitOne K (.ref a) (.type "ValueError") = some true := by
  unfold PySem.W.kitOne
  rw [if_neg (show ¬ ((Value.ref a == Value.type "ValueError") = true) from Bool.false_ne_true)]
  show (if PySem.W.kitMeta "ValueError" = true then PySem.W.subIn K (.ref a) (.type "ValueError") else none) = some true
  rw [if_pos (by decide +kernel)]
  exact h
/-- a call with keywords of a def without defaults -/
theorem kb_of {K : PySem.W.Frag} {x qual : Str} {st : Stmt} {f : Addr} {fd : FuncData} {ps : List Str} (F : Fun K x qual st f fd) (n : Nat) (ks : List Str) (g : {α : Type} → List α → List α → List α)
    (hrel : ∀ {vs zs : List V} {us ws : List Value}, Vals vs us → Vals zs ws → Vals (g vs zs) (g us ws))
    (h : ∀ (kV doc pm : Value) (an : Option Addr) (cdv ct : Value) (us ws : List Value), us.length = n → ws.length = ks.length → bindArgs (PySem.W.fnOf x qual (defArgs st) (defBody st) (defScope st) .none kV doc pm an cdv ct) ⟨us, ks.zip ws⟩ = pure (ps.zip (g us ws))) :
    KBn K fd ps n ks (fun us ws => g us ws) (fun vs zs => g vs zs) := by
  obtain ⟨oc, od, kV, doc, pm, an, cdv, ct, osl, rfl, lk, hcd⟩ := F.ex
  exact ⟨fun s us ws X l1 l2 => .of_eq (h kV doc pm an cdv ct us ws l1 l2), fun r1 r2 => hrel r1 r2⟩
end OS
namespace OS
open PySem L2
/-! ### primes, bases, sums: the numbers -/
def isP (n : Nat) : Prop := 2 ≤ n ∧ ∀ d, 2 ≤ d → d < n → ¬ d ∣ n
theorem isP_sq {n f : Nat} (h2 : 2 ≤ n) (h : ∀ d, 2 ≤ d → d < f → d < n → ¬ d ∣ n) (hf : n < f * f) : isP n := by
  refine ⟨h2, fun d d2 dn dv => ?_⟩
  obtain ⟨e, he⟩ := dv
  by_cases hd : d < f
  · exact h d d2 hd dn ⟨e, he⟩
  · have hd' : f ≤ d := Nat.not_lt.mp hd
    have ef : e < f := by
      refine Nat.lt_of_not_le fun q => ?_
      have := Nat.mul_le_mul hd' q
      omega
    have e2 : 2 ≤ e := by
      rcases e with _ | _ | e
      · omega
      · omega
      · omega
    have en : e < n := by
      rw [he]
      have : 2 * e ≤ d * e := Nat.mul_le_mul_right e d2
      omega
    exact h e e2 ef en ⟨d, by rw [he, Nat.mul_comm]⟩
theorem isP_gcd {p s : Nat} (hp : isP p) (h : s.gcd p ≠ 1) : p ∣ s := by
  have hd : s.gcd p ∣ p := Nat.gcd_dvd_right s p
  have hp0 : 0 < p := by have := hp.1; omega
  have hg0 : 0 < s.gcd p := Nat.gcd_pos_of_pos_right _ hp0
  have hle : s.gcd p ≤ p := Nat.le_of_dvd hp0 hd
  have : s.gcd p = p := by
    rcases Nat.lt_or_ge (s.gcd p) p with q | q
    · exact absurd hd (hp.2 _ (by omega) q)
    · omega
  rw [← this]
  exact Nat.gcd_dvd_left s p
/-- what a base is: from 2 on, prime to all the sums, and the least such -/
def isB (ss : List Int) (b : Nat) : Prop := 2 ≤ b ∧ (∀ s ∈ ss, s.natAbs.gcd b = 1) ∧ ∀ d, 2 ≤ d → d < b → ∃ s ∈ ss, s.natAbs.gcd d ≠ 1
theorem isB_prime {ss : List Int} {b : Nat} (h : isB ss b) : isP b := by
  refine ⟨h.1, fun d d2 db dv => ?_⟩
  obtain ⟨s, hs, hg⟩ := h.2.2 d d2 db
  have h1 := h.2.1 s hs
  have : s.natAbs.gcd d ∣ s.natAbs.gcd b := Nat.gcd_dvd_gcd_of_dvd_right _ dv
  rw [h1] at this
  exact hg (Nat.dvd_one.mp this)
theorem isB_ndvd {ss : List Int} {b : Nat} (h : isB ss b) : ∀ s ∈ ss, ¬ b ∣ s.natAbs := by
  intro s hs dv
  have h1 := h.2.1 s hs
  rw [Nat.gcd_eq_right dv] at h1
  have := h.1
  omega
theorem isB_below {ss : List Int} {b d : Nat} (h : isB ss b) (d2 : 2 ≤ d) (db : d < b) (hp : isP d) : ∃ s ∈ ss, d ∣ s.natAbs := by
  obtain ⟨s, hs, hg⟩ := h.2.2 d d2 db
  exact ⟨s, hs, isP_gcd hp hg⟩
def prodL (l : List Nat) : Nat := l.foldr (· * ·) 1
def absProd (ss : List Int) : Nat := ss.foldr (fun s m => s.natAbs * m) 1
theorem absProd_pos : ∀ {ss : List Int}, (∀ s ∈ ss, s ≠ 0) → 0 < absProd ss
  | [], _ => by decide
  | s :: ss, h => Nat.mul_pos (by have := h s List.mem_cons_self; omega) (absProd_pos fun t ht => h t (List.mem_cons_of_mem _ ht))
theorem absProd_lt {b : Nat} : ∀ {ss : List Int}, (∀ s ∈ ss, s.natAbs < 2 ^ b) → absProd ss ≤ 2 ^ (b * ss.length)
  | [], _ => by simp [absProd]
  | s :: ss, h => by
    have := absProd_lt (b := b) fun t ht => h t (List.mem_cons_of_mem s ht)
    have h1 := h s List.mem_cons_self
    show s.natAbs * absProd ss ≤ _
    rw [List.length_cons, Nat.mul_succ, Nat.pow_add, Nat.mul_comm (2 ^ (b * ss.length))]
    exact Nat.mul_le_mul (Nat.le_of_lt h1) this
theorem dvd_absProd : ∀ {ss : List Int} {s : Int} {p : Nat}, s ∈ ss → p ∣ s.natAbs → p ∣ absProd ss
  | t :: ss, s, p, h, d => by
    show p ∣ t.natAbs * absProd ss
    rcases List.mem_cons.mp h with e | e
    · subst e; exact Nat.dvd_mul_right_of_dvd d _
    · exact Nat.dvd_mul_left_of_dvd (dvd_absProd e d) _
def pairwise1 : List Nat → Nat → Bool
  | [], _ => true
  | p :: l, a => (a.gcd p == 1) && pairwise1 l (a * p)
def prodA : List Nat → Nat → Nat
  | [], a => a
  | p :: l, a => prodA l (a * p)
theorem prod_dvd : ∀ (l : List Nat) (a n : Nat), pairwise1 l a = true → a ∣ n → (∀ p ∈ l, p ∣ n) → prodA l a ∣ n
  | [], a, n, _, h, _ => h
  | p :: l, a, n, h, ha, hl => by
    unfold pairwise1 at h
    rw [Bool.and_eq_true] at h
    have hc : Nat.Coprime a p := by have := h.1; simpa using this
    exact prod_dvd l (a * p) n h.2 (Nat.Coprime.mul_dvd_of_dvd_of_dvd hc ha (hl p List.mem_cons_self)) fun q hq => hl q (List.mem_cons_of_mem _ hq)
def smallP (p : Nat) : Bool := Nat.ble 2 p && (List.range 75).all fun d => Nat.ble d 1 || Nat.ble p d || !(p % d == 0)
def primesTo : List Nat := (List.range 5500).filter smallP
theorem smallP_isP {p : Nat} (h : smallP p = true) (hp : p < 5500) : isP p := by
  unfold smallP at h
  rw [Bool.and_eq_true, List.all_eq_true] at h
  refine isP_sq (f := 75) (Nat.le_of_ble_eq_true h.1) (fun d d2 d75 dp dv => ?_) (by omega)
  have := h.2 d (List.mem_range.mpr d75)
  have e1 : Nat.ble d 1 = false := by
    cases e : Nat.ble d 1 with
    | false => rfl
    | true => have := Nat.le_of_ble_eq_true e; omega
  have e2 : Nat.ble p d = false := by
    cases e : Nat.ble p d with
    | false => rfl
    | true => have := Nat.le_of_ble_eq_true e; omega
  rw [e1, e2, Nat.mod_eq_zero_of_dvd dv] at this
  cases this
theorem primes_ok : pairwise1 primesTo 1 = true ∧ 2 ^ 7380 ≤ prodA primesTo 1 := by decide +kernel
theorem some_base (ss : List Int) (hl : ss.length ≤ 63) (h0 : ∀ s ∈ ss, s ≠ 0) (hb : ∀ s ∈ ss, s.natAbs < 2 ^ 117) : ∃ d, 2 ≤ d ∧ d < 5500 ∧ ∀ s ∈ ss, s.natAbs.gcd d = 1 := by
  refine Classical.byContradiction fun hne => ?_
  have hall : ∀ p ∈ primesTo, p ∣ absProd ss := by
    intro p hp
    obtain ⟨h1, h2⟩ := List.mem_filter.mp hp
    have hlt := List.mem_range.mp h1
    have hP := smallP_isP h2 hlt
    have : ∃ s ∈ ss, s.natAbs.gcd p ≠ 1 := by
      refine Classical.byContradiction fun q => hne ⟨p, hP.1, hlt, fun s hs => ?_⟩
      exact Classical.byContradiction fun g => q ⟨s, hs, g⟩
    obtain ⟨s, hs, hg⟩ := this
    exact dvd_absProd hs (isP_gcd hP hg)
  have hd := prod_dvd primesTo 1 (absProd ss) primes_ok.1 (Nat.one_dvd _) hall
  have hle := Nat.le_of_dvd (absProd_pos h0) hd
  have hlt := absProd_lt hb
  have : 2 ^ (117 * ss.length) ≤ 2 ^ 7371 := Nat.pow_le_pow_right (by decide) (by omega)
  have hbig : (2 : Nat) ^ 7371 < 2 ^ 7380 := by decide +kernel
  have := primes_ok.2
  omega
theorem least_of {p : Nat → Prop} : ∀ n, (∃ d, d < n ∧ p d) → ∃ b, b < n ∧ p b ∧ ∀ d, d < b → ¬ p d := by
  intro n
  induction n with
  | zero => rintro ⟨d, h, _⟩; omega
  | succ n ih =>
    rintro ⟨d, hd, hp⟩
    by_cases h : ∃ d, d < n ∧ p d
    · obtain ⟨b, hb, r⟩ := ih h
      exact ⟨b, by omega, r⟩
    · refine ⟨n, by omega, ?_, fun e he hpe => h ⟨e, he, hpe⟩⟩
      have : d = n := by
        refine Classical.byContradiction fun q => h ⟨d, by omega, hp⟩
      exact this ▸ hp
theorem least_base (ss : List Int) (hl : ss.length ≤ 63) (h0 : ∀ s ∈ ss, s ≠ 0) (hb : ∀ s ∈ ss, s.natAbs < 2 ^ 117) : ∃ b, b < 5500 ∧ isB ss b := by
  obtain ⟨d, d2, dl, hd⟩ := some_base ss hl h0 hb
  obtain ⟨b, bl, ⟨b2, hb1⟩, hmin⟩ := least_of (p := fun d => 2 ≤ d ∧ ∀ s ∈ ss, s.natAbs.gcd d = 1) 5500 ⟨d, dl, d2, hd⟩
  refine ⟨b, bl, b2, hb1, fun e e2 eb => ?_⟩
  refine Classical.byContradiction fun q => hmin e eb ⟨e2, fun s hs => ?_⟩
  exact Classical.byContradiction fun g => q ⟨s, hs, g⟩
/-! ### the sums of all selections -/
def psf (acc : List Int) (n : Int) : List Int := acc ++ [n] ++ acc.map fun t => t + n
def msT (ns : List Int) : Nat → Nat → Int
  | 0, _ => 0
  | i + 1, m => msT ns i m + if m / 2 ^ i % 2 = 1 then ns.getD i 0 else 0
def tabT (ns : List Int) (i : Nat) : List Int := (List.range (2 ^ i - 1)).map fun j => msT ns i (j + 1)
theorem msT_hi (ns : List Int) {i m : Nat} : ∀ k, k ≤ i → msT ns k (2 ^ i + m) = msT ns k m := by
  intro k
  induction k with
  | zero => intro _; rfl
  | succ k ih =>
    intro hk
    have e : (2 ^ i + m) / 2 ^ k % 2 = m / 2 ^ k % 2 := by
      obtain ⟨j, rfl⟩ : ∃ j, i = k + 1 + j := ⟨i - (k + 1), by omega⟩
      have : 2 ^ (k + 1 + j) + m = m + 2 ^ k * (2 * 2 ^ j) := by
        rw [Nat.pow_add, Nat.pow_add, Nat.pow_one, Nat.add_comm, Nat.mul_assoc]
      rw [this, Nat.add_mul_div_left _ _ (Nat.two_pow_pos k)]
      omega
    show msT ns k _ + (if (2 ^ i + m) / 2 ^ k % 2 = 1 then _ else _) = msT ns k m + _
    rw [ih (by omega), e]
theorem msT_zero (ns : List Int) : ∀ i, msT ns i 0 = 0 := by
  intro i
  induction i with
  | zero => rfl
  | succ i ih =>
    show msT ns i 0 + (if 0 / 2 ^ i % 2 = 1 then _ else _) = 0
    rw [ih, Nat.zero_div]
    rfl
theorem tab_len (ns : List Int) (i : Nat) : (tabT ns i).length = 2 ^ i - 1 := by unfold tabT; rw [List.length_map, List.length_range]
theorem tab_get (ns : List Int) {i j : Nat} (h : j < 2 ^ i - 1) : (tabT ns i)[j]? = some (msT ns i (j + 1)) := by
  unfold tabT
  rw [List.getElem?_map, List.getElem?_range h]
  rfl
theorem tab_succ (ns : List Int) (i : Nat) : tabT ns (i + 1) = psf (tabT ns i) (ns.getD i 0) := by
  have hp : 0 < 2 ^ i := Nat.two_pow_pos i
  have h2 : 2 ^ (i + 1) = 2 ^ i + 2 ^ i := by rw [Nat.pow_succ]; omega
  refine List.ext_getElem? fun j => ?_
  unfold psf
  by_cases hj : j < 2 ^ (i + 1) - 1
  · rw [tab_get ns hj]
    show some (msT ns i (j + 1) + if (j + 1) / 2 ^ i % 2 = 1 then ns.getD i 0 else 0) = _
    by_cases h1 : j < 2 ^ i - 1
    · rw [List.append_assoc, List.getElem?_append_left (by rw [tab_len]; exact h1), tab_get ns h1, Nat.div_eq_of_lt (by omega)]
      simp
    · obtain ⟨r, hr⟩ : ∃ r, j + 1 = 2 ^ i + r := ⟨j + 1 - 2 ^ i, by omega⟩
      have hr2 : r < 2 ^ i := by omega
      have hd : (2 ^ i + r) / 2 ^ i = 1 := by
        rw [Nat.add_div_left _ hp, Nat.div_eq_of_lt hr2]
      rw [hr, msT_hi ns i (Nat.le_refl _), hd, if_pos rfl, List.append_assoc, List.getElem?_append_right (by rw [tab_len]; omega), tab_len]
      rcases r with _ | r
      · rw [show j - (2 ^ i - 1) = 0 by omega, msT_zero, Int.zero_add]
        rfl
      · rw [show j - (2 ^ i - 1) = r + 1 by omega]
        show _ = ((tabT ns i).map fun t => t + ns.getD i 0)[r]?
        rw [List.getElem?_map, tab_get ns (by omega)]
        rfl
  · rw [List.getElem?_eq_none (by rw [tab_len]; omega), List.getElem?_eq_none]
    simp only [List.length_append, List.length_map, tab_len, List.length_cons, List.length_nil]
    omega
theorem msT_bd {ns : List Int} {B : Nat} (hb : ∀ n ∈ ns, n.natAbs ≤ B) (m : Nat) : ∀ i, (msT ns i m).natAbs ≤ i * B := by
  intro i
  induction i with
  | zero => simp [msT]
  | succ i ih =>
    have hg : (ns.getD i 0).natAbs ≤ B := by
      rw [List.getD_eq_getElem?_getD]
      cases e : ns[i]? with
      | none => simp
      | some z => exact hb z (List.mem_of_getElem? e)
    show (msT ns i m + if m / 2 ^ i % 2 = 1 then ns.getD i 0 else 0).natAbs ≤ _
    rw [Nat.succ_mul]
    split <;> omega
theorem tab_bd {ns : List Int} {B : Nat} (hb : ∀ n ∈ ns, n.natAbs ≤ B) (i : Nat) : ∀ s ∈ tabT ns i, s.natAbs ≤ i * B := by
  intro s hs
  unfold tabT at hs
  obtain ⟨j, _, rfl⟩ := List.mem_map.mp hs
  exact msT_bd hb _ i
end OS
namespace OS
open PySem L2
structure Df (K : PySem.W.Frag) (mg : Str → Option Value) (x : Str) (f : Addr) : Prop where
  mg : mg x = some (.ref f)
  kp : PySem.W.keepIn K (.ref f) = true
theorem sameUpd {H H' : Hp} {p : Addr} {o : HO} (s : Same H H') (h : H p = none) : Same H (L2.upd H' p o) := fun b u e => by
  rw [upd_ne (ne_of_none e h)]
  exact s b u e
def spCd : Sp := fun vs H Q _ => ∃ (a b : Int), vs = [.int a, .int b] ∧ Q (.int ((a.natAbs.gcd b.natAbs : Nat) : Int)) H
theorem seqT {K : PySem.W.Frag} {H H' : Hp} {a : Addr} {xs : List V} (s : Same H H') (h : SqT K H a xs) : SqT K H' a xs := h.elim (fun r => .inl (r.elim (fun r => .inl (s _ _ r)) fun ⟨o, r⟩ => .inr ⟨o, s _ _ r⟩)) .inr
/-- a list or a tuple of integers -/
def SqI (K : PySem.W.Frag) (H : Hp) (a : Addr) (ns : List Int) : Prop := SqL K H a (ns.map V.int) ∨ SqT K H a (ns.map V.int)
theorem SqI.same {K : PySem.W.Frag} {H H' : Hp} {a : Addr} {ns : List Int} (h : SqI K H a ns) (s : Same H H') : SqI K H' a ns := h.elim (fun h => .inl (s.seq h)) fun h => .inr (seqT s h)
def spPs (K : PySem.W.Frag) : Sp := fun vs H Q _ => ∃ (a : Addr) (ns : List Int), vs = [.ref a] ∧ SqI K H a ns ∧ ns.length ≤ 6 ∧
  ∀ (D : Addr) (H' : Hp), H D = none → Same H H' → H' D = some (.lst ((tabT ns ns.length).map V.int)) → Q (.ref D) H'
def spSh (K : PySem.W.Frag) : Sp := fun vs H Q _ => ∃ (a : Addr) (b : Int) (ss : List Int), vs = [.int b, .ref a] ∧ SqL K H a (ss.map V.int) ∧ Q (.bl (ss.any fun s => decide (1 < s.natAbs.gcd b.natAbs))) H
def spLb (K : PySem.W.Frag) (C : Addr) : Sp := fun vs H Q E => ∃ (a : Addr) (ns : List Int), vs = [.ref a] ∧ SqI K H a ns ∧ ns.length ≤ 6 ∧ (∀ n ∈ ns, n.natAbs ≤ 2 ^ 114) ∧
  (0 ∉ tabT ns ns.length → ∀ (b : Nat) (H' : Hp), isB (tabT ns ns.length) b → b < 5500 → Same H H' → Q (.int b) H') ∧
  (0 ∈ tabT ns ns.length → ∀ (dd T : Addr) (H' : Hp), H dd = none → H' dd = some (.xd [("numbers", .ref T)]) → SqT K H' T (ns.map V.int) → Same H H' → E (.ref C) (some dd) H')
def spPr : Sp := fun vs H Q _ => ∃ (n : Int), vs = [.int n] ∧ n < 2 ^ 60 ∧ (∀ b : Bool, (b = true ↔ (0 ≤ n ∧ isP n.toNat)) → Q (.bl b) H)
theorem inV_zero (ns : List Int) : inV (.int 0) (ns.map V.int) = decide (0 ∈ ns) := by
  induction ns with
  | nil => rfl
  | cons n ns ih =>
    show (eqV (V.int n) (V.int 0) || inV (V.int 0) (ns.map V.int)) = _
    rw [ih]
    show ((n == 0) || decide (0 ∈ ns)) = _
    by_cases e : n = 0
    · subst e; simp
    · have e2 : ¬ (0 : Int) = n := fun z => e z.symm
      simp [e, e2]
theorem flat_ints (ns : List Int) : ∀ x ∈ ns.map V.int, flatV x = true := by
  intro x hx
  obtain ⟨n, _, rfl⟩ := List.mem_map.mp hx
  rfl
theorem shares_of {ss : List Int} {b : Int} (h : (ss.any fun s => decide (1 < s.natAbs.gcd b.natAbs)) = true) : ∃ s ∈ ss, s.natAbs.gcd b.natAbs ≠ 1 := by
  obtain ⟨s, hs, h1⟩ := List.any_eq_true.mp h
  have := of_decide_eq_true h1
  exact ⟨s, hs, by omega⟩
theorem shares_no {ss : List Int} {b : Int} (hb : 2 ≤ b) (h : ¬ (ss.any fun s => decide (1 < s.natAbs.gcd b.natAbs)) = true) : ∀ s ∈ ss, s.natAbs.gcd b.natAbs = 1 := by
  intro s hs
  have hp : 0 < s.natAbs.gcd b.natAbs := Nat.gcd_pos_of_pos_right _ (by omega)
  refine Classical.byContradiction fun q => h (List.any_eq_true.mpr ⟨s, hs, decide_eq_true (by omega)⟩)
section
variable {P : Program} {w : World} {K : PySem.W.Frag} {mg : Str → Option Value} {base : Heap}
theorem scZs : FnScope ["self", "numbers"] ["self", "numbers"] (defScope sZeroSum_init) := ⟨rfl, rfl, rfl, by decide +kernel, rfl, by decide +kernel, by decide +kernel⟩
theorem ok_zs {f fI C : Addr} {fd : FuncData} (F : Fun K "__init__" "ZeroSum.__init__" sZeroSum_init f fd) (T : ErrC K mg "ZeroSum" C fI "numbers") : FnOk P w K mg base CX0 1 f fd ["self", "numbers"] (spE K C "numbers") := by
  refine F.ok scZs (fun vs H Q E h => ?_) (fun cdv A outer s H vs Q E hr h => ?_)
  · obtain ⟨a, y, rfl, _⟩ := h
    rfl
  · obtain ⟨a, y, rfl, ha, k⟩ := h
    refine ⟨_, pss_one (ps_ost (pv 0) (pv 1)), ?_⟩
    exact ⟨_, rfl, _, rfl, a, C, rfl, T.ox, T.no, .inl ⟨ha, fun dx n ne => k dx n ne⟩⟩
theorem raised {H H1 : Hp} {a dd : Addr} {fs : List (Str × V)} {o1 o2 : HO} (s : Same H H1) (na : H1 a = none) (nd : H1 dd = none) (ne : dd ≠ a) : H dd = none ∧ (L2.upd (L2.del (L2.upd (L2.upd (L2.upd H1 a o1) dd (exd dd fs)) a o2) a) dd (.xd fs)) dd = some (.xd fs) ∧ Same H1 (L2.upd (L2.del (L2.upd (L2.upd (L2.upd H1 a o1) dd (exd dd fs)) a o2) a) dd (.xd fs)) := by
  refine ⟨s.free nd, upd_same, fun b o e => ?_⟩
  rw [made_heap na ne, upd_ne (ne_of_none e nd)]
  exact e
theorem scCd : FnScope ["first", "second"] ["first", "second"] (defScope s_common_divisor) := ⟨rfl, rfl, rfl, by decide +kernel, rfl, by decide +kernel, by decide +kernel⟩
theorem ok_cd {f : Addr} {fd : FuncData} (F : Fun K "common_divisor" "common_divisor" s_common_divisor f fd) (GC : mg "gcd" = some (.builtin "math.gcd")) : FnOk P w K mg base CX0 1 f fd ["first", "second"] spCd := by
  refine F.ok scCd (fun vs H Q E h => ?_) (fun cdv A outer s H vs Q E hr h => ?_)
  · obtain ⟨n, d, rfl, _⟩ := h
    rfl
  · obtain ⟨n, d, rfl, k⟩ := h
    refine ⟨_, pss_one (ps_ret (pe_callBfun cr_gcd rfl GC (pa_cons (pv 0) (pa_cons (pv 1) pa_nil)))), ?_⟩
    exact ⟨_, rfl, _, rfl, n, d, rfl, k⟩
abbrev nPs : List Str := ["numbers", "sums", "number", "total"]
theorem scPs : FnScope nPs ["numbers"] (defScope s_partial_sums) := ⟨rfl, rfl, rfl, by decide +kernel, rfl, by decide +kernel, by decide +kernel⟩
theorem ps_bodyR {ns : List Int} {i : Nat} (h : i < ns.length) : ns[i]? = some (ns.getD i 0) := by
  rw [List.getD_eq_getElem?_getD, List.getElem?_eq_getElem h]
  rfl
theorem ok_ps {f : Addr} {fd : FuncData} (F : Fun K "partial_sums" "partial_sums" s_partial_sums f fd) : FnOk P w K mg base CX0 1 f fd ["numbers"] (spPs K) := by
  refine F.ok scPs (fun vs H Q E h => ?_) (fun cdv A outer s H vs Q E hr h => ?_)
  · obtain ⟨a, ns, rfl, _⟩ := h
    rfl
  · obtain ⟨a, ns, rfl, hS, hl, k⟩ := h
    rcases hS with hS | hS
    · refine ⟨_, pss_cons (ps_set (i := 1) scPs.nd rfl (Or.inl rfl) (pe_lst pa_nil))
        (pss_cons (ps_for PassesOwn.never rfl (pi_list (pv 0)) (pg_name (i := 2) scPs.nd rfl (Or.inr rfl))
          (pss_one (ps_set (i := 1) scPs.nd rfl (Or.inl rfl) (pe_op op_cat (pe_op op_cat (pv 1) (pe_lst (pa_cons (pv 2) pa_nil)))
            (pe_lc (own := [("total", 3)]) (g := gName 3) (tt := tYes) rfl scPs.nd (pi_list (pv 1)) (blkOk_by (own := [("total", 3)]) (N := nPs) (sc := defScope s_partial_sums) (by decide +kernel))
              (fun _ _ _ _ _ => pg_name (i := 3) scPs.nd rfl (Or.inl rfl)) (fun _ _ _ _ _ => pts_nil) (fun _ _ _ _ _ => pe_op op_add (pv 3) (pv 2)))))))
        (pss_one (ps_ret (pv 1)))), ?_⟩
      refine ⟨by show 0 ≤ sizeLine; decide, fun l0 hl0 => ?_⟩
      refine ⟨_, rfl, a, rfl, ⟨_, Same.seq (sameUpd (Same.refl _) hl0) hS⟩, for_list (K := K) (a := a) (xs := ns.map V.int) (fun i σ H' => Same H H' ∧ ∃ (D : Addr) (v : Option V), H D = none ∧ H' D = some (.lst ((tabT ns i).map V.int)) ∧ σ = [some (.ref a), some (.ref D), v, none]) ⟨sameUpd (Same.refl _) hl0, l0, none, hl0, upd_same, rfl⟩ (fun i σ H' _ h => Same.seq h.1 hS) ?_ ?_⟩
      · rintro i x σ H1 hi ⟨s1, D, v, hD, hDl, rfl⟩
        have hil : i < ns.length := by
          have := (List.getElem?_eq_some_iff.mp hi).1
          rwa [List.length_map] at this
        have hx : x = V.int (ns.getD i 0) := by
          rw [List.getElem?_map, ps_bodyR hil] at hi
          exact (Option.some.inj hi).symm
        subst hx
        have tl : (tabT ns i).length ≤ 63 := by
          rw [tab_len]
          have : 2 ^ i ≤ 2 ^ 6 := Nat.pow_le_pow_right (by decide) (by omega)
          omega
        refine ⟨_, rfl, _, rfl, by show 1 ≤ sizeLine; decide, fun p hp => ?_⟩
        have s2 := sameUpd (o := .lst [V.int (ns.getD i 0)]) (Same.refl H1) hp
        have hDp : D ≠ p := ne_of_none hDl hp
        refine ⟨D, p, _, _, rfl, rfl, by rw [upd_ne hDp]; exact hDl, upd_same, ?_, fun q hq => ?_⟩
        · rw [List.length_map]
          show (tabT ns i).length + 1 ≤ sizeLine
          exact Nat.le_of_lt (small1000 (by omega))
        obtain ⟨H2, hH2⟩ : ∃ H2, H2 = L2.upd (L2.upd H1 p (.lst [V.int (ns.getD i 0)])) q (.lst ((tabT ns i).map V.int ++ [V.int (ns.getD i 0)])) := ⟨_, rfl⟩
        have s3 : Same H1 H2 := by rw [hH2]; exact sameUpd s2 (by cases e : H1 q with | none => rfl | some o => rw [s2 _ _ e] at hq; cases hq)
        have hq2 : H2 q = some (.lst ((tabT ns i).map V.int ++ [V.int (ns.getD i 0)])) := by rw [hH2]; exact upd_same
        rw [← hH2]
        have hDl2 := s3 _ _ hDl
        refine ⟨_, rfl, D, rfl, ⟨_, SqL.of hDl2⟩, fun E hE => lc_list (K := K) (a := D) (xs := (tabT ns i).map V.int) (fun j H' => Same H2 H' ∧ H' E = some (.lst ((((tabT ns i).take j).map fun t => t + ns.getD i 0).map V.int))) ⟨sameUpd (Same.refl _) hE, upd_same⟩ (fun j H' _ h => SqL.of (h.1 _ _ hDl2)) ?_ ?_⟩
        · rintro j y H3 hj ⟨s4, hE3⟩
          obtain ⟨z, hz, rfl⟩ : ∃ z, (tabT ns i)[j]? = some z ∧ y = V.int z := by
            rw [List.getElem?_map] at hj
            cases e : (tabT ns i)[j]? with
            | none => rw [e] at hj; cases hj
            | some z => rw [e] at hj; exact ⟨z, rfl, (Option.some.inj hj).symm⟩
          refine ⟨rfl, ?_⟩
          refine ⟨_, rfl, _, rfl, _, _, rfl, rfl, ?_⟩
          refine ⟨_, hE3, ?_, ?_, ?_⟩
          · rw [List.length_map, List.length_map, List.length_take]
            exact small1000 (by omega)
          · intro b o e
            rw [upd_ne (ne_of_none e hE)]
            exact s4 b o e
          · rw [upd_same, List.take_succ, hz]
            simp
        · rintro H3 ⟨s4, hE3⟩
          rw [List.length_map, List.take_length] at hE3
          refine ⟨q, E, _, _, rfl, rfl, s4 _ _ hq2, hE3, ?_, fun r hr3 => ?_⟩
          · rw [List.length_append, List.length_map, List.length_map, List.length_map]
            show (tabT ns i).length + 1 + (tabT ns i).length ≤ sizeLine
            exact Nat.le_of_lt (small1000 (by omega))
          · have s5 := (s1.trans s3).trans s4
            refine ⟨sameUpd s5 (s5.free hr3), r, _, s5.free hr3, ?_, rfl⟩
            rw [upd_same, tab_succ]
            unfold psf
            simp
      · rintro σ H1 ⟨s1, D, v, hD, hDl, rfl⟩
        rw [List.length_map] at hDl
        exact ⟨_, rfl, k D H1 hD s1 hDl⟩
    · refine ⟨_, pss_cons (ps_set (i := 1) scPs.nd rfl (Or.inl rfl) (pe_lst pa_nil))
        (pss_cons (ps_for PassesOwn.never rfl (pi_tup (pv 0)) (pg_name (i := 2) scPs.nd rfl (Or.inr rfl))
          (pss_one (ps_set (i := 1) scPs.nd rfl (Or.inl rfl) (pe_op op_cat (pe_op op_cat (pv 1) (pe_lst (pa_cons (pv 2) pa_nil)))
            (pe_lc (own := [("total", 3)]) (g := gName 3) (tt := tYes) rfl scPs.nd (pi_list (pv 1)) (blkOk_by (own := [("total", 3)]) (N := nPs) (sc := defScope s_partial_sums) (by decide +kernel))
              (fun _ _ _ _ _ => pg_name (i := 3) scPs.nd rfl (Or.inl rfl)) (fun _ _ _ _ _ => pts_nil) (fun _ _ _ _ _ => pe_op op_add (pv 3) (pv 2)))))))
        (pss_one (ps_ret (pv 1)))), ?_⟩
      refine ⟨by show 0 ≤ sizeLine; decide, fun l0 hl0 => ?_⟩
      refine ⟨_, rfl, a, rfl, ⟨_, seqT (sameUpd (Same.refl _) hl0) hS⟩, for_tup (K := K) (a := a) (xs := ns.map V.int) (fun i σ H' => Same H H' ∧ ∃ (D : Addr) (v : Option V), H D = none ∧ H' D = some (.lst ((tabT ns i).map V.int)) ∧ σ = [some (.ref a), some (.ref D), v, none]) ⟨sameUpd (Same.refl _) hl0, l0, none, hl0, upd_same, rfl⟩ (fun i σ H' _ h => seqT h.1 hS) ?_ ?_⟩
      · rintro i x σ H1 hi ⟨s1, D, v, hD, hDl, rfl⟩
        have hil : i < ns.length := by
          have := (List.getElem?_eq_some_iff.mp hi).1
          rwa [List.length_map] at this
        have hx : x = V.int (ns.getD i 0) := by
          rw [List.getElem?_map, ps_bodyR hil] at hi
          exact (Option.some.inj hi).symm
        subst hx
        have tl : (tabT ns i).length ≤ 63 := by
          rw [tab_len]
          have : 2 ^ i ≤ 2 ^ 6 := Nat.pow_le_pow_right (by decide) (by omega)
          omega
        refine ⟨_, rfl, _, rfl, by show 1 ≤ sizeLine; decide, fun p hp => ?_⟩
        have s2 := sameUpd (o := .lst [V.int (ns.getD i 0)]) (Same.refl H1) hp
        have hDp : D ≠ p := ne_of_none hDl hp
        refine ⟨D, p, _, _, rfl, rfl, by rw [upd_ne hDp]; exact hDl, upd_same, ?_, fun q hq => ?_⟩
        · rw [List.length_map]
          show (tabT ns i).length + 1 ≤ sizeLine
          exact Nat.le_of_lt (small1000 (by omega))
        obtain ⟨H2, hH2⟩ : ∃ H2, H2 = L2.upd (L2.upd H1 p (.lst [V.int (ns.getD i 0)])) q (.lst ((tabT ns i).map V.int ++ [V.int (ns.getD i 0)])) := ⟨_, rfl⟩
        have s3 : Same H1 H2 := by rw [hH2]; exact sameUpd s2 (by cases e : H1 q with | none => rfl | some o => rw [s2 _ _ e] at hq; cases hq)
        have hq2 : H2 q = some (.lst ((tabT ns i).map V.int ++ [V.int (ns.getD i 0)])) := by rw [hH2]; exact upd_same
        rw [← hH2]
        have hDl2 := s3 _ _ hDl
        refine ⟨_, rfl, D, rfl, ⟨_, SqL.of hDl2⟩, fun E hE => lc_list (K := K) (a := D) (xs := (tabT ns i).map V.int) (fun j H' => Same H2 H' ∧ H' E = some (.lst ((((tabT ns i).take j).map fun t => t + ns.getD i 0).map V.int))) ⟨sameUpd (Same.refl _) hE, upd_same⟩ (fun j H' _ h => SqL.of (h.1 _ _ hDl2)) ?_ ?_⟩
        · rintro j y H3 hj ⟨s4, hE3⟩
          obtain ⟨z, hz, rfl⟩ : ∃ z, (tabT ns i)[j]? = some z ∧ y = V.int z := by
            rw [List.getElem?_map] at hj
            cases e : (tabT ns i)[j]? with
            | none => rw [e] at hj; cases hj
            | some z => rw [e] at hj; exact ⟨z, rfl, (Option.some.inj hj).symm⟩
          refine ⟨rfl, ?_⟩
          refine ⟨_, rfl, _, rfl, _, _, rfl, rfl, ?_⟩
          refine ⟨_, hE3, ?_, ?_, ?_⟩
          · rw [List.length_map, List.length_map, List.length_take]
            exact small1000 (by omega)
          · intro b o e
            rw [upd_ne (ne_of_none e hE)]
            exact s4 b o e
          · rw [upd_same, List.take_succ, hz]
            simp
        · rintro H3 ⟨s4, hE3⟩
          rw [List.length_map, List.take_length] at hE3
          refine ⟨q, E, _, _, rfl, rfl, s4 _ _ hq2, hE3, ?_, fun r hr3 => ?_⟩
          · rw [List.length_append, List.length_map, List.length_map, List.length_map]
            show (tabT ns i).length + 1 + (tabT ns i).length ≤ sizeLine
            exact Nat.le_of_lt (small1000 (by omega))
          · have s5 := (s1.trans s3).trans s4
            refine ⟨sameUpd s5 (s5.free hr3), r, _, s5.free hr3, ?_, rfl⟩
            rw [upd_same, tab_succ]
            unfold psf
            simp
      · rintro σ H1 ⟨s1, D, v, hD, hDl, rfl⟩
        rw [List.length_map] at hDl
        exact ⟨_, rfl, k D H1 hD s1 hDl⟩
end
end OS
namespace OS
open PySem L2
theorem isP_even {n : Nat} (h : 4 ≤ n) (e : n % 2 = 0) : ¬ isP n := fun p => p.2 2 (by decide) (by omega) (Nat.dvd_of_mod_eq_zero e)
theorem isP_small {n : Nat} (h : n < 4) : isP n ↔ 1 < n := by
  constructor
  · intro p; have := p.1; omega
  · intro q
    refine ⟨by omega, fun d d2 dn dv => ?_⟩
    have : n = 3 ∧ d = 2 := by omega
    obtain ⟨rfl, rfl⟩ := this
    revert dv
    decide
section
variable {P : Program} {w : World} {K : PySem.W.Frag} {mg : Str → Option Value} {base : Heap}
abbrev nSh : List Str := ["base", "numbers", "number"]
theorem scSh : FnScope nSh ["base", "numbers"] (defScope s_shares_divisor) := ⟨rfl, rfl, rfl, by decide +kernel, rfl, by decide +kernel, by decide +kernel⟩
theorem ok_sh {f fC : Addr} {fd dC : FuncData} (F : Fun K "_shares_divisor" "_shares_divisor" s_shares_divisor f fd)
    (EC : FnOk P w K mg base CX0 1 fC dC ["first", "second"] spCd) (GC : Df K mg "common_divisor" fC) (bC : Binds K dC ["first", "second"] []) : FnOk P w K mg base CX0 2 f fd ["base", "numbers"] (spSh K) := by
  refine F.ok scSh (fun vs H Q E h => ?_) (fun cdv A outer s H vs Q E hr h => ?_)
  · obtain ⟨a, b, ss, rfl, _⟩ := h
    rfl
  · obtain ⟨a, b, ss, rfl, hS, k⟩ := h
    refine ⟨_, pss_cons (ps_for PassesOwn.never rfl (pi_list (pv 1)) (pg_name (i := 2) scSh.nd rfl (Or.inl rfl))
        (pss_one (ps_if (pt_cmpR op_gt (pe_call EC hr rfl GC.mg GC.kp bC .nil pass0 (pa_cons (pv 2) (pa_cons (pv 0) pa_nil))) pe_int (nomark _)) (pss_one (ps_ret pe_bl)) pss_nil)))
      (pss_one (ps_ret pe_bl)), ?_⟩
    refine ⟨_, rfl, a, rfl, ⟨_, hS⟩, for_list (K := K) (a := a) (xs := ss.map V.int) (fun i σ H' => H' = H ∧ (∃ v, σ = [some (.int b), some (.ref a), v]) ∧ ((ss.take i).any fun s => decide (1 < s.natAbs.gcd b.natAbs)) = false) ⟨rfl, ⟨none, rfl⟩, rfl⟩ (fun i σ H' _ h => h.1 ▸ hS) ?_ ?_⟩
    · rintro i x σ H' hi ⟨rfl, ⟨v, rfl⟩, hz⟩
      obtain ⟨z, hzi, rfl⟩ : ∃ z, ss[i]? = some z ∧ x = V.int z := by
        rw [List.getElem?_map] at hi
        cases e : ss[i]? with
        | none => rw [e] at hi; cases hi
        | some z => rw [e] at hi; exact ⟨z, rfl, (Option.some.inj hi).symm⟩
      refine ⟨_, rfl, _, rfl, z, b, rfl, _, _, rfl, rfl, _, rfl, ?_⟩
      refine ite2 (fun h => ?_) (fun h => ?_)
      · have h1 : (1 : Int) < ((z.natAbs.gcd b.natAbs : Nat) : Int) := of_decide_eq_true h
        have : (ss.any fun s => decide (1 < s.natAbs.gcd b.natAbs)) = true := List.any_eq_true.mpr ⟨z, List.mem_of_getElem? hzi, decide_eq_true (by omega)⟩
        rw [this] at k
        exact k
      · have h1 : ¬ (1 : Int) < ((z.natAbs.gcd b.natAbs : Nat) : Int) := fun q => h (decide_eq_true q)
        refine ⟨rfl, ⟨some (.int z), rfl⟩, ?_⟩
        rw [List.take_succ, hzi, List.any_append, hz]
        show (decide (1 < z.natAbs.gcd b.natAbs) || false) = false
        rw [decide_eq_false (by omega)]
        rfl
    · rintro σ H' ⟨rfl, ⟨v, rfl⟩, hz⟩
      rw [List.length_map, List.take_length] at hz
      rw [hz] at k
      exact k
abbrev nLb : List Str := ["numbers", "sums", "base"]
theorem scLb : FnScope nLb ["numbers"] (defScope s_least_base) := ⟨rfl, rfl, rfl, by decide +kernel, rfl, by decide +kernel, by decide +kernel⟩
theorem ok_lb {f C fC fP fS : Addr} {fd dC dP dS : FuncData} (F : Fun K "least_base" "least_base" s_least_base f fd) (U : ErrC K mg "ZeroSum" C fC "numbers") (mT : mg "tuple" = none)
    (EC : FnOk P w K mg base CX0 1 fC dC ["self", "numbers"] (spE K C "numbers")) (bC : Binds K dC ["self", "numbers"] [])
    (EP : FnOk P w K mg base CX0 1 fP dP ["numbers"] (spPs K)) (GP : Df K mg "partial_sums" fP) (bP : Binds K dP ["numbers"] [])
    (ES : FnOk P w K mg base CX0 2 fS dS ["base", "numbers"] (spSh K)) (GS : Df K mg "_shares_divisor" fS) (bS : Binds K dS ["base", "numbers"] []) : FnOk P w K mg base (L2.CX P w) 3 f fd ["numbers"] (spLb K C) := by
  refine F.okX scLb (fun vs H Q E h => ?_) (fun cdv A outer s H vs Q E hr h => ?_)
  · obtain ⟨a, ns, rfl, _⟩ := h
    rfl
  · obtain ⟨a, ns, rfl, hS, hl, hb, k1, k2⟩ := h
    have hr1 : Room 1 _ := hr.mono (by decide)
    refine ⟨_, pss_cons (ps_set (i := 1) scLb.nd rfl (Or.inl rfl) (pe_call EP hr1 rfl GP.mg GP.kp bP .nil pass0 (pa_cons (pv 0) pa_nil)))
      (pss_cons (ps_if (pt_cmpR op_in_seq pe_int (pv 1) (by rfl)) (pss_one (ps_raise rfl (takes_of rfl rfl rfl rfl) (pmk_oex U.ox U.iC U.tI EC hr bC .nil pass0 rfl U.mg (pa_cons (pe_callTy call_tuple_of (by rfl) mT (by decide +kernel) (pa_cons (pv 0) pa_nil)) pa_nil)))) pss_nil)
      (pss_cons (ps_set (i := 2) scLb.nd rfl (Or.inl rfl) pe_int)
      (pss_cons (ps_while (passes_of rfl) (pt_val (pe_call ES hr rfl GS.mg GS.kp bS .nil pass0 (pa_cons (pv 2) (pa_cons (pv 1) pa_nil))))
        (pss_one (ps_set (i := 2) scLb.nd rfl (Or.inl rfl) (pe_op op_add (pv 2) pe_int))))
      (pss_one (ps_ret (pv 2)))))), ?_⟩
    refine ⟨_, rfl, a, ns, rfl, hS, hl, fun D H1 hD s1 hD1 => ?_⟩
    obtain ⟨ss, hss⟩ : ∃ ss, ss = tabT ns ns.length := ⟨_, rfl⟩
    rw [← hss] at hD1 k1 k2
    refine ⟨_, rfl, D, _, rfl, .inl (SqL.of hD1), rfl, List.all_eq_true.mpr (flat_ints ss), _, rfl, ?_⟩
    rw [inV_zero]
    refine ite2 (fun h => ?_) (fun h => ?_)
    · have hz : (0 : Int) ∈ ss := of_decide_eq_true h
      have fin : ∀ (T : Addr) (H2 : Hp), Same H1 H2 → SqT K H2 T (ns.map V.int) → ∀ a, H2 a = none → ∀ dd, (L2.upd H2 a (exo a C none)) dd = none → dd ≠ a → E (.ref C) (some dd) (L2.upd (L2.del (L2.upd (L2.upd (L2.upd H2 a (exo a C none)) dd (exd dd [("numbers", .ref T)])) a (exo a C (some dd))) a) dd (.xd [("numbers", .ref T)])) := by
        intro T H2 s2 hT e na dd nd2 ne
        rw [upd_ne ne] at nd2
        obtain ⟨r1, r2, r3⟩ := raised (fs := [("numbers", V.ref T)]) (o1 := exo e C none) (o2 := exo e C (some dd)) (s1.trans s2) na nd2 ne
        exact k2 hz dd T _ r1 r2 (seqT r3 hT) ((s1.trans s2).trans r3)
      refine ⟨_, rfl, a, ns.map V.int, rfl, ?_⟩
      rcases hS with hS | hS
      · refine .inl ⟨s1.seq hS, fun T hT => ?_⟩
        refine ⟨(by show 1 ≤ 1000; decide), fun e na => ?_⟩
        refine ⟨e, _, rfl, upd_same, fun dd nd2 ne => ⟨rfl, dd, [("numbers", .ref T)], upd_same, ?_, ?_, ?_⟩⟩
        · rw [upd_ne ne, upd_same]
        · rw [upd_ne ne] at nd2
          exact nd2
        · exact fin T _ (sameUpd (Same.refl _) hT) (SqT.of upd_same) e na dd nd2 ne
      · refine .inr ⟨seqT s1 hS, ?_⟩
        refine ⟨(by show 1 ≤ 1000; decide), fun e na => ?_⟩
        refine ⟨e, _, rfl, upd_same, fun dd nd2 ne => ⟨rfl, dd, [("numbers", .ref a)], upd_same, ?_, ?_, ?_⟩⟩
        · rw [upd_ne ne, upd_same]
        · rw [upd_ne ne] at nd2
          exact nd2
        · exact fin a _ (Same.refl _) (seqT s1 hS) e na dd nd2 ne
    · have hz : (0 : Int) ∉ ss := fun q => h (decide_eq_true q)
      have hn0 : ∀ s ∈ ss, s ≠ 0 := fun s hs e => hz (e ▸ hs)
      have hlen : ss.length ≤ 63 := by
        rw [hss, tab_len]
        have : 2 ^ ns.length ≤ 2 ^ 6 := Nat.pow_le_pow_right (by decide) hl
        omega
      have hsb : ∀ s ∈ ss, s.natAbs < 2 ^ 117 := by
        intro s hs
        rw [hss] at hs
        have := tab_bd hb ns.length s hs
        have h6 : ns.length * 2 ^ 114 ≤ 6 * 2 ^ 114 := Nat.mul_le_mul_right _ hl
        have : s.natAbs ≤ 6 * 2 ^ 114 := Nat.le_trans this h6
        exact Nat.lt_of_le_of_lt this (by decide)
      obtain ⟨b0, hb0, hB⟩ := least_base ss hlen hn0 hsb
      refine ⟨fun n σ H' => H' = H1 ∧ ∃ b : Nat, 2 ≤ b ∧ b ≤ b0 ∧ n = b0 - b ∧ σ = [some (.ref a), some (.ref D), some (.int b)], ⟨b0 - 2, rfl, 2, by decide, hB.1, rfl, rfl⟩, ?_⟩
      rintro n σ H' ⟨rfl, b, b2, bl, rfl, rfl⟩
      refine ⟨_, rfl, _, rfl, D, b, ss, rfl, SqL.of hD1, _, rfl, ?_⟩
      refine ite2 (fun h => ?_) (fun h => ?_)
      · obtain ⟨s, hs, hg⟩ := shares_of h
        have hbb : b < b0 := by
          rcases Nat.lt_or_ge b b0 with q | q
          · exact q
          · have : b = b0 := by omega
            subst this
            exact absurd (hB.2.1 s hs) hg
        refine ⟨fun σ' H2 => H2 = H' ∧ σ' = [some (.ref a), some (.ref D), some (.int ((b + 1 : Nat) : Int))], ?_, ?_⟩
        · rintro σ' H2 ⟨rfl, rfl⟩
          exact ⟨b0 - (b + 1), by omega, rfl, b + 1, by omega, by omega, rfl, rfl⟩
        · exact ⟨_, rfl, _, _, rfl, rfl, rfl, rfl⟩
      · have hno := shares_no (by omega) h
        have hbe : b = b0 := by
          rcases Nat.lt_or_ge b b0 with q | q
          · obtain ⟨s, hs, hg⟩ := hB.2.2 b b2 q
            exact absurd (hno s hs) hg
          · omega
        subst hbe
        exact ⟨_, rfl, k1 hz b H' hB hb0 s1⟩
abbrev nIp : List Str := ["number", "factor"]
theorem scIp : FnScope nIp ["number"] (defScope s_is_prime) := ⟨rfl, rfl, rfl, by decide +kernel, rfl, by decide +kernel, by decide +kernel⟩
theorem ok_ip {f : Addr} {fd : FuncData} (F : Fun K "is_prime" "is_prime" s_is_prime f fd) : FnOk P w K mg base CX0 1 f fd ["number"] spPr := by
  refine F.ok scIp (fun vs H Q E h => ?_) (fun cdv A outer s H vs Q E hr h => ?_)
  · obtain ⟨n, rfl, _⟩ := h
    rfl
  · obtain ⟨n, rfl, hn, k⟩ := h
    refine ⟨_, pss_cons (ps_if (pt_cmpR op_lt (pv 0) pe_int (nomark _)) (pss_one (ps_ret (pe_cmpR op_gt (pv 0) pe_int (nomark _)))) pss_nil)
      (pss_cons (ps_if (pt_cmpR op_eq (pe_op op_modN (pv 0) pe_int) pe_int (nomark _)) (pss_one (ps_ret pe_bl)) pss_nil)
      (pss_cons (ps_set (i := 1) scIp.nd rfl (Or.inl rfl) pe_int)
      (pss_cons (ps_while PassesOwn.never (pt_cmpR op_le (pe_op op_mul (pv 1) (pv 1)) (pv 0) (nomark _))
        (pss_cons (ps_if (pt_cmpR op_eq (pe_op op_modN (pv 0) (pv 1)) pe_int (nomark _)) (pss_one (ps_ret pe_bl)) pss_nil)
        (pss_one (ps_set (i := 1) scIp.nd rfl (Or.inl rfl) (pe_op op_add (pv 1) pe_int)))))
      (pss_one (ps_ret pe_bl))))), ?_⟩
    refine ⟨_, rfl, _, _, rfl, rfl, _, rfl, ?_⟩
    refine ite2 (fun h => ?_) (fun h => ?_)
    · have h4 : n < 4 := of_decide_eq_true h
      refine ⟨_, rfl, _, _, rfl, rfl, ?_⟩
      refine k _ ?_
      show decide (n > 1) = true ↔ _
      rw [decide_eq_true_iff]
      constructor
      · intro q
        exact ⟨by omega, (isP_small (by omega)).mpr (by omega)⟩
      · rintro ⟨q, p⟩
        have := p.1
        omega
    · have h4 : 4 ≤ n := by
        have : ¬ n < 4 := fun q => h (decide_eq_true q)
        omega
      obtain ⟨N, rfl⟩ := Int.eq_ofNat_of_zero_le (show 0 ≤ n by omega)
      have em : ∀ d : Nat, (N : Int).fmod (d : Int) = ((N % d : Nat) : Int) := fun d => by
        rw [Int.fmod_eq_emod_of_nonneg _ (by omega)]
        rfl
      refine ⟨_, rfl, _, _, rfl, rfl, (by show (2 : Int) ≠ 0; decide), ?_⟩
      refine ⟨rfl, _, rfl, ?_⟩
      show if decide (V.int ((N : Int).fmod ((2 : Nat) : Int)) = V.int 0) = true then _ else _
      rw [em 2]
      refine ite2 (fun h => ?_) (fun h => ?_)
      · have h2 : N % 2 = 0 := by
          have := V.int.inj (of_decide_eq_true h)
          omega
        refine k false ?_
        constructor
        · intro q; cases q
        · rintro ⟨_, p⟩
          exact absurd p (isP_even (by omega) h2)
      · have h2 : N % 2 = 1 := by
          have : ¬ N % 2 = 0 := fun q => h (decide_eq_true (by rw [q]; rfl))
          omega
        refine ⟨fun m σ H' => H' = H ∧ ∃ f : Nat, 3 ≤ f ∧ f % 2 = 1 ∧ f ≤ N + 2 ∧ m = N + 2 - f ∧ (∀ d, 2 ≤ d → d < f → d < N → ¬ d ∣ N) ∧ σ = [some (.int (N : Int)), some (.int (f : Int))], ⟨N + 2 - 3, rfl, 3, by decide, rfl, by omega, rfl, ?_, rfl⟩, ?_⟩
        · intro d d2 d3 _ dv
          have : d = 2 := by omega
          subst this
          have := Nat.mod_eq_zero_of_dvd dv
          omega
        · rintro m σ H' ⟨rfl, f, f3, fo, fl, rfl, hno, rfl⟩
          refine ⟨_, rfl, _, rfl, _, _, rfl, rfl, .inl ⟨by omega, by omega⟩, _, rfl, _, _, rfl, rfl, _, rfl, ?_⟩
          refine ite2 (fun h => ?_) (fun h => ?_)
          · have hff : f * f ≤ N := by
              have h1 : (f : Int) * (f : Int) ≤ (N : Int) := of_decide_eq_true h
              exact_mod_cast h1
            have hfN : f ≤ N := Nat.le_trans (Nat.le_mul_self f) hff
            refine ⟨fun σ' H2 => H2 = H' ∧ ¬ f ∣ N ∧ σ' = [some (.int (N : Int)), some (.int ((f + 2 : Nat) : Int))], ?_, ?_⟩
            · rintro σ' H2 ⟨rfl, hnf, rfl⟩
              refine ⟨N + 2 - (f + 2), by omega, rfl, f + 2, by omega, by omega, by omega, rfl, fun d d2 df dN dv => ?_, rfl⟩
              by_cases e1 : d < f
              · exact hno d d2 e1 dN dv
              · by_cases e2 : d = f
                · exact hnf (e2 ▸ dv)
                · have e3 : d = f + 1 := by omega
                  have : 2 ∣ d := Nat.dvd_of_mod_eq_zero (by omega)
                  have := Nat.mod_eq_zero_of_dvd (Nat.dvd_trans this dv)
                  omega
            · refine ⟨_, rfl, _, rfl, _, _, rfl, rfl, (by show (f : Int) ≠ 0; omega), ?_⟩
              refine ⟨rfl, _, rfl, ?_⟩
              show if decide (V.int ((N : Int).fmod (f : Int)) = V.int 0) = true then _ else _
              rw [em f]
              refine ite2 (fun h => ?_) (fun h => ?_)
              · have h0 : N % f = 0 := by
                  have := V.int.inj (of_decide_eq_true h)
                  omega
                refine k false ?_
                constructor
                · intro q; cases q
                · rintro ⟨_, p⟩
                  have hlt : f < N := by
                    have : 3 * f ≤ f * f := Nat.mul_le_mul_right f f3
                    omega
                  exact absurd (Nat.dvd_of_mod_eq_zero h0) (p.2 f (by omega) hlt)
              · refine ⟨_, rfl, _, _, rfl, rfl, rfl, ?_, rfl⟩
                intro dv
                exact h (decide_eq_true (by rw [Nat.mod_eq_zero_of_dvd dv]; rfl))
          · have hff : N < f * f := by
              have h1 : ¬ (f : Int) * (f : Int) ≤ (N : Int) := fun q => h (decide_eq_true q)
              have h2 : ¬ f * f ≤ N := fun q => h1 (by exact_mod_cast q)
              omega
            refine k true ?_
            constructor
            · intro _
              exact ⟨by omega, isP_sq (f := f) (by show 2 ≤ N; omega) hno hff⟩
            · intro _; rfl
end
end OS
namespace OS
open PySem L2
/-! ### the law's own primes, sums and bases -/
def spPrL : Sp := fun vs H Q _ => ∃ (n : Int), vs = [.int n] ∧ n < 2 ^ 60 ∧ -(2 ^ 60) < n ∧ (∀ b : Bool, (b = true ↔ (0 ≤ n ∧ isP n.toNat)) → Q (.bl b) H)
def spSums (K : PySem.W.Frag) : Sp := fun vs H Q _ => ∃ (a : Addr) (ns : List Int), vs = [.ref a] ∧ SqL K H a (ns.map V.int) ∧ ns.length ≤ 6 ∧
  ∀ (D : Addr) (H' : Hp), H D = none → Same H H' → H' D = some (.lst ((tabT ns ns.length).map V.int)) → Q (.ref D) H'
def spBase (K : PySem.W.Frag) : Sp := fun vs H Q _ => ∃ (a : Addr) (ss : List Int) (b : Nat), vs = [.ref a] ∧ SqL K H a (ss.map V.int) ∧ ss.length ≤ 63 ∧ isB ss b ∧ b < 5500 ∧ ∀ H', Same H H' → Q (.int b) H'
theorem bitAnd_one (n : Nat) : Builtin.bitAnd (n : Int) 1 = ((n % 2 : Nat) : Int) := by
  unfold Builtin.bitAnd
  have e : decide (0 ≤ (n : Int)) = true := decide_eq_true (by omega)
  rw [e]
  show (((n : Int).toNat &&& (1 : Int).toNat : Nat) : Int) = _
  rw [Int.toNat_natCast]
  show ((n &&& 1 : Nat) : Int) = _
  rw [Nat.and_one_is_mod]
section
variable {P : Program} {w : World} {K : PySem.W.Frag} {mg : Str → Option Value} {base : Heap}
abbrev nPr : List Str := ["_law_one", "_law_divisor"]
theorem scPr : FnScope nPr ["_law_one"] (defScope s_prime) := ⟨rfl, rfl, rfl, by decide +kernel, rfl, by decide +kernel, by decide +kernel⟩
theorem ok_pr {f : Addr} {fd : FuncData} (F : Fun K "_law_prime" "_law_prime" s_prime f fd) (mR : mg "range" = none) (mI : mg "int" = none) : FnOk P w K mg base CX0 1 f fd ["_law_one"] spPrL := by
  refine F.ok scPr (fun vs H Q E h => ?_) (fun cdv A outer s H vs Q E hr h => ?_)
  · obtain ⟨n, rfl, _⟩ := h
    rfl
  · obtain ⟨n, rfl, hn1, hn0, k⟩ := h
    refine ⟨_, pss_cons (ps_for PassesOwn.never rfl (pi_range2 (by rfl) mR (pa_cons pe_int (pa_cons (pv 0) pa_nil))) (pg_name (i := 1) scPr.nd rfl (Or.inl rfl))
        (pss_cons (ps_if (pt_cmpR op_gt (pe_op op_mul (pv 1) (pv 1)) (pv 0) (nomark _)) (pss_one (ps_ret pe_bl)) pss_nil)
        (pss_one (ps_if (pt_cmpR op_eq (pe_op op_modN (pe_callTy call_int1 (by rfl) mI (by decide +kernel) (pa_cons (pv 0) pa_nil)) (pv 1)) pe_int (nomark _)) (pss_one (ps_ret pe_bl)) pss_nil))))
      (pss_one (ps_ret (pe_cmpR op_gt (pv 0) pe_int (nomark _)))), ?_⟩
    refine ⟨_, rfl, 2, n, rfl, ⟨by decide, by decide, by omega, by omega⟩, for_range (lo := 2) (n := (n - 2).toNat) (fun i σ H' => H' = H ∧ (∃ v, σ = [some (.int n), v]) ∧ ∀ d, 2 ≤ d → d < 2 + i → ¬ d ∣ n.toNat) ⟨rfl, ⟨none, rfl⟩, fun d d2 d3 => by omega⟩ ?_ ?_⟩
    · rintro i σ H' hi ⟨rfl, ⟨v, rfl⟩, hno⟩
      obtain ⟨N, rfl⟩ := Int.eq_ofNat_of_zero_le (show 0 ≤ n by omega)
      rw [Int.toNat_natCast] at hno k
      obtain ⟨f, hf⟩ : ∃ f : Nat, f = 2 + i := ⟨_, rfl⟩
      have hfN : f < N := by omega
      rw [show V.int (2 + (i : Int)) = V.int (f : Int) by rw [hf]; rfl]
      refine ⟨_, rfl, _, rfl, _, _, rfl, rfl, .inl ⟨by omega, by omega⟩, _, rfl, _, _, rfl, rfl, _, rfl, ?_⟩
      refine ite2 (fun h => ?_) (fun h => ?_)
      · have hff : N < f * f := by
          have h1 : (f : Int) * (f : Int) > (N : Int) := of_decide_eq_true h
          exact_mod_cast h1
        refine k true ?_
        constructor
        · intro _
          exact ⟨by omega, isP_sq (f := f) (by omega) (fun d d2 d3 _ => hno d d2 (by omega)) hff⟩
        · intro _; rfl
      · have em : (N : Int).fmod (f : Int) = ((N % f : Nat) : Int) := by
          rw [Int.fmod_eq_emod_of_nonneg _ (by omega)]
          rfl
        refine ⟨_, rfl, .inl ⟨_, rfl, ?_⟩⟩
        refine ⟨_, rfl, _, _, rfl, rfl, (by show (f : Int) ≠ 0; omega), ?_⟩
        refine ⟨rfl, _, rfl, ?_⟩
        show if decide (V.int ((N : Int).fmod (f : Int)) = V.int 0) = true then _ else _
        rw [em]
        refine ite2 (fun h => ?_) (fun h => ?_)
        · have h0 : N % f = 0 := by
            have := V.int.inj (of_decide_eq_true h)
            omega
          refine k false ?_
          constructor
          · intro q; cases q
          · rintro ⟨_, p⟩
            exact absurd (Nat.dvd_of_mod_eq_zero h0) (p.2 f (by omega) hfN)
        · refine ⟨rfl, ⟨some (.int (f : Int)), rfl⟩, fun d d2 d3 dv => ?_⟩
          rw [Int.toNat_natCast] at dv
          by_cases e : d < 2 + i
          · exact hno d d2 e dv
          · have e2 : d = f := by omega
            subst e2
            exact h (decide_eq_true (by rw [Nat.mod_eq_zero_of_dvd dv]; rfl))
    · rintro σ H' ⟨rfl, ⟨v, rfl⟩, hno⟩
      refine ⟨_, rfl, _, _, rfl, rfl, ?_⟩
      refine k _ ?_
      show decide (n > 1) = true ↔ _
      rw [decide_eq_true_iff]
      constructor
      · intro q
        exact ⟨by omega, by omega, fun d d2 d3 => hno d d2 (by omega)⟩
      · rintro ⟨q, p⟩
        have := p.1
        omega
abbrev nSm : List Str := ["_law_row", "_law_sums_here", "_law_mask", "_law_k"]
theorem scSm : FnScope nSm ["_law_row"] (defScope s_sums) := ⟨rfl, rfl, rfl, by decide +kernel, rfl, by decide +kernel, by decide +kernel⟩
theorem ok_sm {f : Addr} {fd : FuncData} (F : Fun K "_law_sums" "_law_sums" s_sums f fd) (mR : mg "range" = none) (mL : mg "len" = none) (mS : mg "sum" = none) : FnOk P w K mg base CX0 1 f fd ["_law_row"] (spSums K) := by
  refine F.ok scSm (fun vs H Q E h => ?_) (fun cdv A outer s H vs Q E hr h => ?_)
  · obtain ⟨a, ns, rfl, _⟩ := h
    rfl
  · obtain ⟨a, ns, rfl, hS, hl, k⟩ := h
    refine ⟨_, pss_cons (ps_set (i := 1) scSm.nd rfl (Or.inl rfl) (pe_lst pa_nil))
      (pss_cons (ps_for PassesOwn.never rfl (pi_range2 (by rfl) mR (pa_cons pe_int (pa_cons (pe_op op_shl pe_int (pe_callB call_len_seq (by rfl) mL PySem.boot_len (pa_cons (pv 0) pa_nil))) pa_nil))) (pg_name (i := 2) scSm.nd rfl (Or.inr rfl))
        (pss_one (ps_expr (pe_bm PySem.F.plainAttrs_list PySem.F.slot_list_append PySem.F.type_list_append mt_append (pv 1) (pa_cons
          (pe_callB (cr_sum rfl) (by rfl) mS (by decide +kernel) (pa_cons (pe_lc (own := [("_law_k", 3)]) (g := gName 3) rfl scSm.nd (pi_range1 rfl mR (pa_cons (pe_callB call_len_seq (by rfl) mL PySem.boot_len (pa_cons (pv 0) pa_nil)) pa_nil)) (blkOk_by (own := [("_law_k", 3)]) (N := nSm) (sc := defScope s_sums) (by decide +kernel))
            (fun _ _ _ _ _ => pg_name (i := 3) scSm.nd rfl (Or.inl rfl)) (fun _ _ _ _ _ => pts_one (pt_cmpR op_eq (pe_op op_and (pe_op op_shr (pv 2) (pv 3)) pe_int) pe_int (nomark _)))
            (fun _ _ _ _ _ => pe_ix (r := rIxL K) ix_list (pv 0) (pv 3) fun _ _ => rfl)) pa_nil)) pa_nil)))))
      (pss_one (ps_ret (pv 1)))), ?_⟩
    refine ⟨by show 0 ≤ sizeLine; decide, fun L hL => ?_⟩
    obtain ⟨H1, hH1⟩ : ∃ H1, H1 = L2.upd H L (.lst []) := ⟨_, rfl⟩
    have s1 : Same H H1 := by rw [hH1]; exact sameUpd (Same.refl _) hL
    have hL1 : H1 L = some (.lst []) := by rw [hH1]; exact upd_same
    rw [← hH1]
    have hlen : (((ns.map V.int).length : Nat) : Int) = (ns.length : Int) := by rw [List.length_map]
    have hpw : (1 : Int) * 2 ^ (ns.length : Int).toNat = ((2 ^ ns.length : Nat) : Int) := by
      rw [Int.toNat_natCast, Int.one_mul]
      exact (Int.natCast_pow 2 ns.length).symm
    have hp6 : 2 ^ ns.length ≤ 64 := by
      have : 2 ^ ns.length ≤ 2 ^ 6 := Nat.pow_le_pow_right (by decide) hl
      exact this
    have hp0 : 0 < 2 ^ ns.length := Nat.two_pow_pos _
    refine ⟨_, rfl, a, _, rfl, .inl (s1.seq hS), ?_⟩
    rw [hlen]
    refine ⟨_, _, rfl, rfl, ⟨by omega, by omega, by decide⟩, ?_⟩
    refine ⟨_, _, rfl, ⟨by decide, by decide, ?_, ?_⟩, ?_⟩
    · show -(2 ^ 62) ≤ (1 : Int) * 2 ^ (ns.length : Int).toNat
      rw [hpw]; omega
    · show (1 : Int) * 2 ^ (ns.length : Int).toNat < 2 ^ 62
      rw [hpw]; omega
    rw [show ((1 : Int) * 2 ^ (ns.length : Int).toNat - 1).toNat = 2 ^ ns.length - 1 by rw [hpw]; omega]
    refine for_range (lo := 1) (n := 2 ^ ns.length - 1) (fun i σ H' => (∀ b o, H1 b = some o → b ≠ L → H' b = some o) ∧ H' L = some (.lst (((tabT ns ns.length).take i).map V.int)) ∧ ∃ v u, σ = [some (.ref a), some (.ref L), v, u]) ⟨fun b o e _ => e, hL1, none, none, rfl⟩ ?_ ?_
    · rintro i σ H2 hi ⟨s2, hL2, v, u, rfl⟩
      have keep : ∀ b o, H b = some o → H2 b = some o := fun b o e => s2 b o (s1 b o e) (ne_of_none e hL)
      have hS2 : SqL K H2 a (ns.map V.int) := Same.seq keep hS
      refine ⟨_, rfl, .inl ⟨rfl, _, SqL.of hL2⟩, ?_⟩
      refine ⟨_, rfl, a, _, rfl, .inl hS2, ?_⟩
      rw [hlen]
      refine ⟨_, rfl, by omega, by omega, fun D hD => lc_range (lo := 0) (n := ns.length) (fun j H' => Same H2 H' ∧ ∃ ls : List Int, H' D = some (.lst (ls.map V.int)) ∧ ls.length ≤ j ∧ ls.sum = msT ns j (i + 1)) ⟨sameUpd (Same.refl _) hD, [], upd_same, by decide, rfl⟩ ?_ ?_⟩
      · rintro j H3 hj ⟨s3, ls, hls, hll, hsum⟩
        refine ⟨rfl, ?_⟩
        refine ⟨_, rfl, _, rfl, _, _, rfl, rfl, (by show (0 : Int) ≤ 0 + (j : Int); omega), _, _, rfl, rfl, rfl, _, rfl, ?_⟩
        have e1 : (1 + (i : Int)) / 2 ^ (0 + (j : Int)).toNat = (((i + 1) / 2 ^ j : Nat) : Int) := by
          rw [show (0 + (j : Int)).toNat = j by omega, show (1 + (i : Int)) = ((i + 1 : Nat) : Int) by omega]
          have : (2 : Int) ^ j = ((2 ^ j : Nat) : Int) := (Int.natCast_pow 2 j).symm
          rw [this]
          rfl
        show if decide (V.int (Builtin.bitAnd ((1 + (i : Int)) / 2 ^ (0 + (j : Int)).toNat) 1) = V.int 1) = true then _ else _
        rw [e1, bitAnd_one]
        refine ite2 (fun h => ?_) (fun h => ?_)
        · have hb : (i + 1) / 2 ^ j % 2 = 1 := by
            have := V.int.inj (of_decide_eq_true h)
            omega
          refine ⟨_, rfl, _, rfl, a, _, _, V.int (ns.getD j 0), rfl, rfl, s3.seq hS2, atI_in (by omega) ?_, ?_⟩
          · rw [show (0 + (j : Int)).toNat = j by omega, List.getElem?_map, ps_bodyR hj]
            rfl
          · refine ⟨_, hls, ?_, ?_, ls ++ [ns.getD j 0], ?_, ?_, ?_⟩
            · rw [List.length_map]
              exact small1000 (by omega)
            · intro b o e
              rw [upd_ne (ne_of_none e hD)]
              exact s3 b o e
            · rw [upd_same, List.map_append]
              rfl
            · rw [List.length_append]
              show ls.length + 1 ≤ j + 1
              omega
            · rw [List.sum_append, hsum]
              show msT ns j (i + 1) + (ns.getD j 0 + 0) = msT ns j (i + 1) + if (i + 1) / 2 ^ j % 2 = 1 then ns.getD j 0 else 0
              rw [if_pos hb, Int.add_zero]
        · have hb : ¬ (i + 1) / 2 ^ j % 2 = 1 := fun q => h (decide_eq_true (by rw [q]; rfl))
          refine ⟨s3, ls, hls, by omega, ?_⟩
          show ls.sum = msT ns j (i + 1) + if (i + 1) / 2 ^ j % 2 = 1 then ns.getD j 0 else 0
          rw [if_neg hb, hsum, Int.add_zero]
      · rintro H3 ⟨s3, ls, hls, hll, hsum⟩
        refine ⟨D, ls, rfl, SqL.of hls, ?_⟩
        have hL3 := s3 _ _ hL2
        refine ⟨L, _, _, rfl, rfl, hL3, ?_, ?_⟩
        · rw [List.length_map, List.length_take]
          exact small1000 (by omega)
        · have hLD : D ≠ L := (ne_of_none hL2 hD).symm
          refine ⟨fun b o e n => ?_, ?_, _, _, rfl⟩
          · rw [upd_ne n]
            exact s3 _ _ (s2 b o e n)
          · rw [upd_same, List.take_succ, tab_get ns hi, hsum]
            simp
    · rintro σ H2 ⟨s2, hL2, v, u, rfl⟩
      refine ⟨_, rfl, k L H2 hL (fun b o e => s2 b o (s1 b o e) (ne_of_none e hL)) ?_⟩
      rw [hL2, List.take_of_length_le (by rw [tab_len]; exact Nat.le_refl _)]
end
end OS
namespace OS
open PySem L2
theorem fmod_dvd {s : Int} {b : Nat} (hb : 0 < b) : (s.fmod (b : Int) = 0) ↔ b ∣ s.natAbs := by
  rw [Int.fmod_eq_emod_of_nonneg _ (by omega)]
  constructor
  · intro h
    exact Int.ofNat_dvd_left.mp (Int.dvd_of_emod_eq_zero h)
  · intro h
    exact Int.emod_eq_zero_of_dvd (Int.ofNat_dvd_left.mpr h)
section
variable {P : Program} {w : World} {K : PySem.W.Frag} {mg : Str → Option Value} {base : Heap}
abbrev nBs : List Str := ["_law_sums_here", "_law_base_here", "_law_one"]
theorem scBs : FnScope nBs ["_law_sums_here"] (defScope s_base) := ⟨rfl, rfl, rfl, by decide +kernel, rfl, by decide +kernel, by decide +kernel⟩
theorem ok_bs {f fP : Addr} {fd dP : FuncData} (F : Fun K "_law_base" "_law_base" s_base f fd) (mI : mg "int" = none)
    (EP : FnOk P w K mg base CX0 1 fP dP ["_law_one"] spPrL) (GP : Df K mg "_law_prime" fP) (bP : Binds K dP ["_law_one"] []) : FnOk P w K mg base CX0 2 f fd ["_law_sums_here"] (spBase K) := by
  refine F.ok scBs (fun vs H Q E h => ?_) (fun cdv A outer s H vs Q E hr h => ?_)
  · obtain ⟨a, ss, b, rfl, _⟩ := h
    rfl
  · obtain ⟨a, ss, b0, rfl, hS, hl, hB, hb5, k⟩ := h
    refine ⟨_, pss_cons (ps_set (i := 1) scBs.nd rfl (Or.inr rfl) pe_int)
      (pss_cons (ps_while PassesOwn.never (PW.pt (pw_or (pt_not (pt_val (pe_call EP hr rfl GP.mg GP.kp bP .nil pass0 (pa_cons (pv 1) pa_nil))))
          (pw_or1 (pt_cmpR (op_neD hr.units) (pe_lc (own := [("_law_one", 2)]) (g := gName 2) rfl scBs.nd (pi_list (pv 0)) (blkOk_by (own := [("_law_one", 2)]) (N := nBs) (sc := defScope s_base) (by decide +kernel))
            (fun _ _ _ _ _ => pg_name (i := 2) scBs.nd rfl (Or.inl rfl)) (fun _ _ _ _ _ => pts_one (pt_cmpR op_eq (pe_op op_modN (pe_callTy call_int1 (by rfl) mI (by decide +kernel) (pa_cons (pv 2) pa_nil)) (pv 1)) pe_int (nomark _)))
            (fun _ _ _ _ _ => pv 2)) (pe_lst pa_nil) (nomark _)))))
        (pss_one (ps_aug (i := 1) scBs.nd rfl (Or.inr rfl) pe_int ip_add)))
      (pss_one (ps_ret (pv 1)))), ?_⟩
    refine ⟨fun n σ H' => Same H H' ∧ ∃ (b : Nat), 2 ≤ b ∧ b ≤ b0 ∧ n = b0 - b ∧ ∃ v, σ = [some (.ref a), some (.int b), v], ⟨b0 - 2, Same.refl _, 2, by decide, hB.1, rfl, none, rfl⟩, ?_⟩
    rintro n σ H1 ⟨s1, b, b2, bl, rfl, v, rfl⟩
    have step : ∀ H2, Same H1 H2 → b < b0 → ∃ N : L2.St → Hp → Prop, (∀ σ' H', N σ' H' → ∃ m', m' < b0 - b ∧ (Same H H' ∧ ∃ (c : Nat), 2 ≤ c ∧ c ≤ b0 ∧ m' = b0 - c ∧ ∃ v, σ' = [some (.ref a), some (.int c), v])) ∧ N [some (.ref a), some (.int ((b : Int) + 1)), v] H2 := by
      intro H2 s2 hb
      refine ⟨fun σ' H' => H' = H2 ∧ σ' = [some (.ref a), some (.int ((b : Int) + 1)), v], ?_, rfl, rfl⟩
      rintro σ' H' ⟨rfl, rfl⟩
      exact ⟨b0 - (b + 1), by omega, s1.trans s2, b + 1, by omega, by omega, rfl, v, rfl⟩
    refine ⟨_, rfl, b, rfl, by omega, by omega, fun pb hpb => ?_⟩
    refine ⟨pb, rfl, ?_⟩
    rw [Int.toNat_natCast] at hpb
    cases pb with
    | false =>
      refine iteT ?_
      have hnp : ¬ isP b := fun p => by
        have := hpb.mpr ⟨by omega, p⟩
        cases this
      have hb : b < b0 := by
        rcases Nat.lt_or_ge b b0 with q | q
        · exact q
        · exact absurd (isB_prime hB) (by rw [show b0 = b by omega]; exact hnp)
      obtain ⟨N, hN, hN2⟩ := step H1 (Same.refl _) hb
      exact ⟨N, hN, _, rfl, _, _, rfl, rfl, hN2⟩
    | true =>
      refine iteF ?_
      have hp : isP b := (hpb.mp rfl).2
      have hS1 := s1.seq hS
      refine ⟨_, rfl, a, rfl, ⟨_, hS1⟩, fun D hD => lc_list (K := K) (a := a) (xs := ss.map V.int) (fun j H' => Same H1 H' ∧ ∃ ls : List Int, H' D = some (.lst (ls.map V.int)) ∧ ls.length ≤ j ∧ (ls = [] ↔ ∀ s ∈ ss.take j, ¬ b ∣ s.natAbs)) ⟨sameUpd (Same.refl _) hD, [], upd_same, by decide, by simp⟩ (fun j H' _ h => h.1.seq hS1) ?_ ?_⟩
      · rintro j y H3 hj ⟨s3, ls, hls, hll, hem⟩
        obtain ⟨z, hz, rfl⟩ : ∃ z, ss[j]? = some z ∧ y = V.int z := by
          rw [List.getElem?_map] at hj
          cases e : ss[j]? with
          | none => rw [e] at hj; cases hj
          | some z => rw [e] at hj; exact ⟨z, rfl, (Option.some.inj hj).symm⟩
        have hjl : j < ss.length := (List.getElem?_eq_some_iff.mp hz).1
        have htk : ss.take (j + 1) = ss.take j ++ [z] := by rw [List.take_succ, hz]; rfl
        refine ⟨rfl, ?_⟩
        refine ⟨_, rfl, .inl ⟨_, rfl, ?_⟩⟩
        refine ⟨_, rfl, _, _, rfl, rfl, (by show (b : Int) ≠ 0; omega), rfl, _, rfl, ?_⟩
        refine ite2 (fun h => ?_) (fun h => ?_)
        · have hdv : b ∣ z.natAbs := (fmod_dvd (by omega)).mp (V.int.inj (of_decide_eq_true h))
          refine ⟨_, rfl, ?_⟩
          refine ⟨_, hls, ?_, ?_, ls ++ [z], ?_, ?_, ?_⟩
          · rw [List.length_map]
            exact small1000 (by omega)
          · intro b o e
            rw [upd_ne (ne_of_none e hD)]
            exact s3 b o e
          · rw [upd_same, List.map_append]
            rfl
          · rw [List.length_append]
            show ls.length + 1 ≤ j + 1
            omega
          · constructor
            · intro q; simp at q
            · intro q
              exact absurd hdv (q z (by rw [htk]; simp))
        · have hdv : ¬ b ∣ z.natAbs := fun q => h (decide_eq_true (congrArg V.int ((fmod_dvd (by omega)).mpr q)))
          refine ⟨s3, ls, hls, by omega, ?_⟩
          rw [hem, htk]
          constructor
          · intro q s hs
            rcases List.mem_append.mp hs with e | e
            · exact q s e
            · cases List.mem_singleton.mp e; exact hdv
          · intro q s hs
            exact q s (List.mem_append.mpr (.inl hs))
      · rintro H3 ⟨s3, ls, hls, hll, hem⟩
        rw [List.length_map, List.take_length] at hem
        refine ⟨by show 0 ≤ sizeLine; decide, fun l hl => ?_⟩
        have s4 := s3.trans (sameUpd (o := .lst []) (Same.refl H3) hl)
        refine ⟨_, _, .lst (SqL.of (by rw [upd_ne (ne_of_none hls hl)]; exact hls)) (ints_dp ls), .lst (SqL.of upd_same) .nil, intsL_shaped ls, by decide +kernel, _, rfl, ?_⟩
        rw [eqv_nil]
        cases ls with
        | nil =>
          have hno := hem.mp rfl
          refine iteF ?_
          have hbe : b = b0 := by
            rcases Nat.lt_or_ge b b0 with q | q
            · obtain ⟨s, hs, hd⟩ := isB_below hB b2 q hp
              exact absurd hd (hno s hs)
            · omega
          subst hbe
          exact ⟨_, rfl, k _ (s1.trans s4)⟩
        | cons z ls =>
          refine iteT ?_
          have hb : b < b0 := by
            rcases Nat.lt_or_ge b b0 with q | q
            · exact q
            · have e : b = b0 := by omega
              subst e
              have := hem.mpr fun s hs => isB_ndvd hB s hs
              cases this
          obtain ⟨N, hN, hN2⟩ := step _ s4 hb
          exact ⟨N, hN, _, rfl, _, _, rfl, rfl, hN2⟩
end
end OS
namespace OS
open PySem L2
def spII : Sp := fun vs H Q _ => ∃ n : Int, vs = [.int n] ∧ Q (.bl true) H
theorem Own.new {st D : Addr} {H : Hp} {o u : HO} (hs : H st = some u) (h : H D = none) (hI : ¬ Is H st D) : Own st (L2.upd H D o) D o :=
  ⟨upd_same, (ne_of_none hs h).symm, fun z => hI (is_upd (ne_of_none hs h) z)⟩
theorem StD.nis {H : Hp} {st D : Addr} {m : Nat} (S : StD H st m) (h : H D = none) : ¬ Is H st D := by
  obtain ⟨bl, cl, c, bs, ns, x, _⟩ := S.ex
  rintro ⟨y, z, r, e, t⟩
  rw [x.s] at e
  cases e
  rcases t with t | t <;> cases t
  · rw [x.b] at h
    cases h
  · rw [x.k] at h
    cases h
theorem StD.own {H : Hp} {st D : Addr} {m : Nat} {o : HO} (S : StD H st m) (h : H D = none) : Own st (L2.upd H D o) D o := by
  obtain ⟨u, hu⟩ := S.there
  exact Own.new hu h (S.nis h)
theorem StD.kd {H : Hp} {st D : Addr} {m : Nat} {o : HO} (S : StD H st m) (h : H D = none) : Kd st H (L2.upd H D o) := by
  obtain ⟨u, hu⟩ := S.there
  exact Kd.new hu h
/-- an own object is changed -/
theorem Own.put {st D b : Addr} {H : Hp} {o u v : HO} (h : Own st H D o) (h2 : Own st H b u) (n : b ≠ D) : Own st (L2.upd H D v) b u :=
  ⟨by rw [upd_ne n]; exact h2.1, h2.2.1, fun z => h2.2.2 (is_upd (fun e => h.2.1 e.symm) z)⟩
theorem Own.self {st D : Addr} {H : Hp} {o v : HO} (h : Own st H D o) : Own st (L2.upd H D v) D v :=
  ⟨upd_same, h.2.1, fun z => h.2.2 (is_upd (fun e => h.2.1 e.symm) z)⟩
theorem StD.put {H : Hp} {st D : Addr} {m : Nat} {o v : HO} (S : StD H st m) (h : Own st H D o) : StD (L2.upd H D v) st m := by
  obtain ⟨bl, cl, c, bs, ns, x, a⟩ := S.ex
  have n1 : st ≠ D := fun e => h.2.1 e.symm
  have n2 : bl ≠ D := fun e => h.2.2 (e ▸ x.own)
  have n3 : cl ≠ D := fun e => h.2.2 (e ▸ x.ownc)
  exact ⟨bl, cl, c, bs, ns, ⟨by rw [upd_ne n1]; exact x.s, by rw [upd_ne n2]; exact x.b, by rw [upd_ne n3]; exact x.k, x.nb, x.nc, x.bc⟩, a⟩
section
variable {P : Program} {w : World} {K : PySem.W.Frag} {mg : Str → Option Value} {base : Heap}
theorem scII : FnScope ["_law_actual"] ["_law_actual"] (defScope s_is_integer) := ⟨rfl, rfl, rfl, by decide +kernel, rfl, by decide +kernel, by decide +kernel⟩
structure BiI (mg : Str → Option Value) : Prop where
  isi : mg "isinstance" = none
  int : mg "int" = none
  bool : mg "bool" = none
  tup : mg "tuple" = none
theorem ok_ii {f : Addr} {fd : FuncData} (F : Fun K "_law_is_integer" "_law_is_integer" s_is_integer f fd) (T : BiI mg) : FnOk P w K mg base CX0 1 f fd ["_law_actual"] spII := by
  refine F.ok scII (fun vs H Q E h => ?_) (fun cdv A outer s H vs Q E hr h => ?_)
  · obtain ⟨n, rfl, _⟩ := h
    rfl
  · obtain ⟨n, rfl, k⟩ := h
    refine ⟨_, pss_one (ps_ret (pe_and (pe_callB call_isi (by rfl) T.isi (by decide +kernel) (pa_cons (pv 0) (pa_cons (pe_bltn (v := V.ty "int") (u := .type "int") (by rfl) T.int (by decide +kernel) rfl) pa_nil)))
      (pe_one (pe_not (pe_callB call_isi (by rfl) T.isi (by decide +kernel) (pa_cons (pv 0) (pa_cons (pe_bltn (v := V.ty "bool") (u := .type "bool") (by rfl) T.bool (by decide +kernel) rfl) pa_nil))))))), ?_⟩
    refine ⟨_, rfl, _, _, _, _, true, rfl, .ty "int", .base (.int n), kit_ty (by decide +kernel), _, rfl, ?_⟩
    refine iteT ?_
    exact ⟨_, rfl, _, _, _, _, false, rfl, .ty "bool", .base (.int n), kit_ty (by decide +kernel), _, rfl, k⟩
theorem okc_ii {f : Addr} {fd : FuncData} (F : Fun K "_law_is_integer" "_law_is_integer" s_is_integer f fd) (T : BiI mg) : FnC P w K mg base 1 f fd ["_law_actual"] spII := by
  refine Fun.okC F scII (fun vs H Q E h => ?_) (fun cdv A outer s H vs Q E hr h => ?_)
  · obtain ⟨n, rfl, _⟩ := h
    rfl
  · obtain ⟨n, rfl, k⟩ := h
    refine ⟨_, pss_one (ps_ret (pe_and (pe_callB call_isi (by rfl) T.isi (by decide +kernel) (pa_cons (pv 0) (pa_cons (pe_bltn (v := V.ty "int") (u := .type "int") (by rfl) T.int (by decide +kernel) rfl) pa_nil)))
      (pe_one (pe_not (pe_callB call_isi (by rfl) T.isi (by decide +kernel) (pa_cons (pv 0) (pa_cons (pe_bltn (v := V.ty "bool") (u := .type "bool") (by rfl) T.bool (by decide +kernel) rfl) pa_nil))))))), ?_⟩
    refine ⟨_, rfl, _, _, _, _, true, rfl, .ty "int", .base (.int n), kit_ty (by decide +kernel), _, rfl, ?_⟩
    refine iteT ?_
    exact ⟨_, rfl, _, _, _, _, false, rfl, .ty "bool", .base (.int n), kit_ty (by decide +kernel), _, rfl, k⟩
end
end OS
namespace OS
open PySem L2
def spNums : Sp := fun vs H Q _ => ∃ (st : Addr) (m : Nat), vs = [.ref st] ∧ StD H st m ∧ m ≤ 900000000 ∧
  ∀ (D : Addr) (ns : List Int) (H' : Hp), (∀ b o, Own st H b o → b ≠ D) → Own st H' D (.lst (ns.map V.int)) → ns.length ≤ 6 → (∀ n ∈ ns, n.natAbs ≤ 1000000000000) → StD H' st (m + 30) → Kd st H H' → Q (.ref D) H'
theorem ixN_last {n : Nat} (h : 0 < n) : ixN n (-1) = some (n - 1) := by
  unfold ixN
  rw [if_neg (by decide), if_pos (by omega)]
  congr 1
  omega
section
variable {P : Program} {w : World} {K : PySem.W.Frag} {mg : Str → Option Value} {base : Heap}
abbrev nNum : List Str := ["_law_state", "_law_scale", "_law_closed", "_law_row", "_law_k", "_law_last"]
theorem scNum : FnScope nNum ["_law_state"] (defScope s_numbers) := ⟨rfl, rfl, rfl, by decide +kernel, rfl, by decide +kernel, by decide +kernel⟩
theorem ok_num {f fD : Addr} {fd dD : FuncData} (F : Fun K "_law_numbers" "_law_numbers" s_numbers f fd) (mR : mg "range" = none) (mL : mg "len" = none) (mS : mg "sum" = none) (mX : mg "max" = none) (mN : mg "min" = none)
    (ED : FnOk P w K mg base CX0 1 fD dD ["_law_state", "_law_size"] spDraw) (GD : Df K mg "_law_draw" fD) (bD : Binds K dD ["_law_state", "_law_size"] []) : FnOk P w K mg base CX0 2 f fd ["_law_state"] spNums := by
  refine F.ok scNum (fun vs H Q E h => ?_) (fun cdv A outer s H vs Q E hr h => ?_)
  · obtain ⟨st, m, rfl, _⟩ := h
    rfl
  · obtain ⟨st, m, rfl, S, hm, k⟩ := h
    refine ⟨_, pss_cons (ps_set (i := 1) scNum.nd rfl (Or.inr rfl) (pe_ix ix_list (pe_lst (pa_cons pe_int (pa_cons pe_int (pa_cons (pe_op op_pow pe_int pe_int) pa_nil)))) (pe_call ED hr rfl GD.mg GD.kp bD .nil pass0 (pa_cons (pv 0) (pa_cons pe_int pa_nil))) fun _ _ => rfl))
      (pss_cons (ps_set (i := 2) scNum.nd rfl (Or.inl rfl) (pe_cmpR op_eq (pe_call ED hr rfl GD.mg GD.kp bD .nil pass0 (pa_cons (pv 0) (pa_cons pe_int pa_nil))) pe_int (nomark _)))
      (pss_cons (ps_set (i := 3) scNum.nd rfl (Or.inr rfl) (pe_lc (own := [("_law_k", 4)]) (g := gName 4) (tt := tYes) rfl scNum.nd (pi_range1 rfl mR (pa_cons (pe_call ED hr rfl GD.mg GD.kp bD .nil pass0 (pa_cons (pv 0) (pa_cons pe_int pa_nil))) pa_nil)) (blkOk_by (own := [("_law_k", 4)]) (N := nNum) (sc := defScope s_numbers) (by decide +kernel))
        (fun _ _ _ _ _ => pg_name (i := 4) scNum.nd rfl (Or.inl rfl)) (fun _ _ _ _ _ => pts_nil)
        (fun _ _ _ _ _ => pe_op op_sub (pe_call ED hr rfl GD.mg GD.kp bD .nil pass0 (pa_cons (pv 0) (pa_cons (pe_op op_add (pe_op op_mul pe_int (pv 1)) pe_int) pa_nil))) (pv 1))))
      (C8.pss_cut (ps_if (PW.pt (pw_and (pt_val (pv 2)) (pw_and1 (pt_cmpR op_gt (pe_callB call_len_seq (by rfl) mL PySem.boot_len (pa_cons (pv 3) pa_nil)) pe_int (nomark _)))))
        (pss_cons (ps_asg (pe_un un_neg (pe_callB (cr_sum rfl) (by rfl) mS (by decide +kernel) (pa_cons (pe_lc (own := [("_law_k", 4)]) (g := gName 4) rfl scNum.nd (pi_range1 rfl mR (pa_cons (pe_op op_sub (pe_callB call_len_seq (by rfl) mL PySem.boot_len (pa_cons (pv 3) pa_nil)) pe_int) pa_nil)) (blkOk_by (own := [("_law_k", 4)]) (N := nNum) (sc := defScope s_numbers) (by decide +kernel))
            (fun _ _ _ _ _ => pg_name (i := 4) scNum.nd rfl (Or.inl rfl)) (fun _ _ _ _ _ => pts_one (pt_cmpR op_eq (pe_call ED hr rfl GD.mg GD.kp bD .nil pass0 (pa_cons (pv 0) (pa_cons pe_int pa_nil))) pe_int (nomark _)))
            (fun _ _ _ _ _ => pe_ix (r := rIxL K) ix_list (pv 3) (pv 4) fun _ _ => rfl)) pa_nil))) (pg_sub (pv 3) (pe_un un_neg pe_int) set_list))
        (pss_cons (ps_asg (pe_callB (cr_max rfl) (by rfl) mX (by decide +kernel) (pa_cons (pe_lst (pa_cons (pe_un un_neg (pv 1)) (pa_cons (pe_callB (cr_min rfl) (by rfl) mN (by decide +kernel) (pa_cons (pe_lst (pa_cons (pv 1) (pa_cons (pe_ix ix_list (pv 3) (pe_un un_neg pe_int) fun _ _ => rfl) pa_nil))) pa_nil)) pa_nil))) pa_nil)) (pg_sub (pv 3) (pe_un un_neg pe_int) set_list))
        (pss_cons (ps_set (i := 5) scNum.nd rfl (Or.inl rfl) (pe_bm0 PySem.F.plainAttrs_list PySem.F.slot_list_pop PySem.F.type_list_pop mt_pop (pv 3)))
        (pss_one (ps_expr (pe_bm PySem.F.plainAttrs_list PySem.F.slot_list_insert PySem.F.type_list_insert mt_insert (pv 3) (pa_cons (pe_call ED hr rfl GD.mg GD.kp bD .nil pass0 (pa_cons (pv 0) (pa_cons (pe_op op_add (pe_callB call_len_seq (by rfl) mL PySem.boot_len (pa_cons (pv 3) pa_nil)) pe_int) pa_nil))) (pa_cons (pv 5) pa_nil)))))))) pss_nil)
      (pss_one (ps_ret (pv 3)))))), ?_⟩
    have e12 : ((10 : Int) ^ (12 : Int).toNat) = 1000000000000 := by decide
    refine ⟨_, _, rfl, rfl, ⟨by decide, by decide, by decide⟩, by show 3 ≤ sizeLine; decide, fun l hl => ?_⟩
    refine ⟨_, rfl, st, m, 3, rfl, S.new hl, by omega, by decide, by decide, fun i H1 i0 i1 S1 kd1 => ?_⟩
    have el : H1 l = some (.lst [V.int 4, V.int 1000, V.int 1000000000000]) := by
      have := (kd1 _ _ (S.own hl)).1
      rw [this]
      show some (HO.lst [V.int 4, V.int 1000, V.int ((10 : Int) ^ (12 : Int).toNat)]) = _
      rw [e12]
    obtain ⟨c, hc, c0, c1⟩ : ∃ c : Int, atI [V.int 4, V.int 1000, V.int 1000000000000] i = some (V.int c) ∧ 1 ≤ c ∧ c ≤ 1000000000000 := by
      have : i = 0 ∨ i = 1 ∨ i = 2 := by omega
      rcases this with rfl | rfl | rfl
      · exact ⟨4, rfl, by decide, by decide⟩
      · exact ⟨1000, rfl, by decide, by decide⟩
      · exact ⟨1000000000000, rfl, by decide, by decide⟩
    refine ⟨l, _, i, V.int c, rfl, rfl, SqL.of el, hc, ?_⟩
    refine ⟨_, rfl, st, m + 1, 3, rfl, S1, by omega, by decide, by decide, fun q H2 q0 q1 S2 kd2 => ?_⟩
    refine ⟨rfl, ?_⟩
    obtain ⟨cl, hcl⟩ : ∃ cl : Bool, cl = decide (V.int q = V.int 1) := ⟨_, rfl⟩
    rw [← hcl]
    refine ⟨_, rfl, st, m + 2, 7, rfl, S2, by omega, by decide, by decide, fun size H3 s0 s1 S3 kd3 => ?_⟩
    have kd03 := (((S.kd hl).trans kd1).trans kd2).trans kd3
    refine ⟨_, rfl, by omega, by omega, fun D hD => lc_range (lo := 0) (n := size.toNat) (fun j H' => StD H' st (m + 3 + j) ∧ Kd st H3 H' ∧ ∃ ns : List Int, ns.length = j ∧ (∀ n ∈ ns, n.natAbs ≤ 1000000000000) ∧ Own st H' D (.lst (ns.map V.int))) ⟨S3.new hD, S3.kd hD, [], rfl, (fun n hn => by cases hn), S3.own hD⟩ ?_ ?_⟩
    · rintro j H4 hj ⟨S4, kd4, ns, hnl, hnb, ow⟩
      refine ⟨rfl, ?_⟩
      refine ⟨_, rfl, _, rfl, _, _, rfl, rfl, .inl ⟨by decide, by decide⟩, _, _, rfl, rfl, st, m + 3 + j, _, rfl, S4, by omega, by omega, by omega, fun r H5 r0 r1 S5 kd5 => ?_⟩
      refine ⟨_, rfl, _, _, rfl, rfl, ?_⟩
      have ow2 := kd5 _ _ ow
      refine ⟨_, ow2.1, ?_, ?_⟩
      · rw [List.length_map, hnl]
        exact small1000 (by omega)
      · refine ⟨(S5.put ow2).mono (by omega), fun b o h => ?_, ns ++ [r - c], ?_, ?_, ?_⟩
        · exact ow2.put (kd5 _ _ (kd4 _ _ h)) (ne_of_none h.1 hD)
        · rw [List.length_append, hnl]
          rfl
        · intro n hn
          rcases List.mem_append.mp hn with q | q
          · exact hnb n q
          · cases List.mem_singleton.mp q
            omega
        · rw [List.map_append]
          exact ow2.self
    · rintro H4 ⟨S4, kd4, ns, hnl, hnb, ow⟩
      have hnl6 : ns.length ≤ 6 := by omega
      have kd04 := kd03.trans kd4
      have hDf : ∀ b o, Own st H b o → b ≠ D := fun b o h => ne_of_none (kd03 b o h).1 hD
      refine ⟨fun σ H' => StD H' st (m + 30) ∧ Kd st H H' ∧ (∃ (ms : List Int), ms.length ≤ 6 ∧ (∀ n ∈ ms, n.natAbs ≤ 1000000000000) ∧ Own st H' D (.lst (ms.map V.int))) ∧ ∃ x y, σ = [some (.ref st), some (.int c), some (.bl cl), some (.ref D), x, y], ?_, ?_⟩
      · refine ⟨_, rfl, cl, rfl, ?_⟩
        cases cl with
        | false =>
          refine iteF ?_
          exact ⟨S4.mono (by omega), kd04, ⟨ns, hnl6, hnb, ow⟩, _, _, rfl⟩
        | true =>
          refine iteT ?_
          refine ⟨_, rfl, D, _, rfl, .inl (SqL.of ow.1), _, _, rfl, rfl, _, rfl, ?_⟩
          rw [List.length_map]
          refine ite2 (fun h => ?_) (fun h => ?_)
          · have h1 : (ns.length : Int) > 1 := of_decide_eq_true h
            -- row[-1] = -sum(..)
            refine ⟨_, rfl, D, _, rfl, .inl (SqL.of ow.1), _, _, rfl, rfl, ?_⟩
            rw [List.length_map]
            refine ⟨_, rfl, by omega, by omega, fun D2 hD2 => lc_range (lo := 0) (n := ((ns.length : Int) - 1).toNat) (fun j H' => StD H' st (m + 10 + j) ∧ Kd st H4 H' ∧ ∃ ls : List Int, ls.length ≤ j ∧ Own st H' D2 (.lst (ls.map V.int))) ⟨(S4.new hD2).mono (by omega), S4.kd hD2, [], by decide, S4.own hD2⟩ ?_ ?_⟩
            · rintro j H5 hj ⟨S5, kd5, ls, hll, ow5⟩
              refine ⟨rfl, ?_⟩
              refine ⟨_, rfl, st, _, 2, rfl, S5, by omega, by decide, by decide, fun r H6 r0 r1 S6 kd6 => ?_⟩
              have owD := kd6 _ _ (kd5 _ _ ow)
              have ow6 := kd6 _ _ ow5
              refine ⟨rfl, _, rfl, ?_⟩
              refine ite2 (fun _ => ?_) (fun _ => ?_)
              · obtain ⟨z, hz1, hz2⟩ := getD_int (ns := ns) (k := 0 + (j : Int)) (by omega) (by omega)
                refine ⟨_, rfl, _, rfl, D, _, _, V.int z, rfl, rfl, SqL.of owD.1, atI_in (by omega) hz1, ?_⟩
                refine ⟨_, ow6.1, ?_, ?_⟩
                · rw [List.length_map]
                  exact small1000 (by omega)
                · refine ⟨(S6.put ow6).mono (by omega), fun b o h => ?_, ls ++ [z], ?_, ?_⟩
                  · exact ow6.put (kd6 _ _ (kd5 _ _ h)) (ne_of_none h.1 hD2)
                  · rw [List.length_append]
                    show ls.length + 1 ≤ j + 1
                    omega
                  · rw [List.map_append]
                    exact ow6.self
              · exact ⟨S6.mono (by omega), kd5.trans kd6, ls, by omega, ow6⟩
            · rintro H5 ⟨S5, kd5, ls, hll, ow5⟩
              have owD := kd5 _ _ ow
              refine ⟨D2, ls, rfl, SqL.of ow5.1, _, rfl, ?_⟩
              have hix : ixN (ns.map V.int).length (-1) = some (ns.length - 1) := by rw [List.length_map]; exact ixN_last (by omega)
              refine ⟨_, rfl, _, rfl, D, _, _, _, rfl, rfl, owD.1, hix, ?_⟩
              obtain ⟨v1, hv1⟩ : ∃ v1 : Int, v1 = -ls.sum := ⟨_, rfl⟩
              rw [show (ns.map V.int).set (ns.length - 1) (V.int (-ls.sum)) = (ns.set (ns.length - 1) v1).map V.int by rw [List.map_set, hv1]]
              have S6 := S5.put (v := .lst ((ns.set (ns.length - 1) v1).map V.int)) owD
              have ow6 : Own st (L2.upd H5 D (.lst ((ns.set (ns.length - 1) v1).map V.int))) D _ := owD.self
              have kd6 : ∀ b o, Own st H b o → Own st (L2.upd H5 D (.lst ((ns.set (ns.length - 1) v1).map V.int))) b o := fun b o h => owD.put (kd5 _ _ (kd04 _ _ h)) (hDf b o h)
              obtain ⟨H6, hH6⟩ : ∃ H6, H6 = L2.upd H5 D (.lst ((ns.set (ns.length - 1) v1).map V.int)) := ⟨_, rfl⟩
              rw [← hH6] at S6 ow6 kd6 ⊢
              have hix2 : ixN ((ns.set (ns.length - 1) v1).map V.int).length (-1) = some (ns.length - 1) := by rw [List.length_map, List.length_set]; exact ixN_last (by omega)
              have hat : atI ((ns.set (ns.length - 1) v1).map V.int) (-1) = some (V.int v1) := by
                unfold atI
                rw [hix2]
                show ((ns.set (ns.length - 1) v1).map V.int)[ns.length - 1]? = _
                rw [List.getElem?_map, List.getElem?_set_self (by omega)]
                rfl
              -- row[-1] = max([-scale, min([scale, row[-1]])])
              refine ⟨_, rfl, _, rfl, _, rfl, _, rfl, _, rfl, D, _, _, V.int v1, rfl, rfl, SqL.of ow6.1, hat, ?_⟩
              refine ⟨by show 2 ≤ sizeLine; decide, fun l1 hl1 => ?_⟩
              refine ⟨l1, [c, v1], rfl, SqL.of upd_same, Nat.zero_lt_succ _, fun mn hmn hle => ?_⟩
              refine ⟨by show 2 ≤ sizeLine; decide, fun l2 hl2 => ?_⟩
              refine ⟨l2, [-c, mn], rfl, SqL.of upd_same, Nat.zero_lt_succ _, fun mx hmx hge => ?_⟩
              have m1 : mn ≤ c := hle c (by simp)
              have m2 : -c ≤ mx := hge (-c) (by simp)
              have m3 : mx ≤ c := by
                rcases List.mem_cons.mp hmx with e | e
                · omega
                · cases List.mem_singleton.mp e; exact m1
              have S7 := S6.new (o := .lst [V.int c, V.int v1]) hl1
              have ow7 := (S6.kd (o := .lst [V.int c, V.int v1]) hl1) _ _ ow6
              have S8 := S7.new (o := .lst [V.int (-c), V.int mn]) hl2
              have ow8 := (S7.kd (o := .lst [V.int (-c), V.int mn]) hl2) _ _ ow7
              have kd8 := fun b o h => (S7.kd (o := .lst [V.int (-c), V.int mn]) hl2) b o ((S6.kd (o := .lst [V.int c, V.int v1]) hl1) b o (kd6 b o h))
              obtain ⟨H8, hH8⟩ : ∃ H8, H8 = L2.upd (L2.upd H6 l1 (.lst [V.int c, V.int v1])) l2 (.lst [V.int (-c), V.int mn]) := ⟨_, rfl⟩
              rw [← hH8] at S8 ow8 kd8
              show _
              refine ⟨_, rfl, _, rfl, D, _, _, _, rfl, rfl, hH8 ▸ ow8.1, hix2, ?_⟩
              rw [← hH8, show ((ns.set (ns.length - 1) v1).map V.int).set (ns.length - 1) (V.int mx) = (ns.set (ns.length - 1) mx).map V.int by rw [← List.map_set, List.set_set]]
              have S9 := S8.put (v := .lst ((ns.set (ns.length - 1) mx).map V.int)) ow8
              have ow9 : Own st (L2.upd H8 D (.lst ((ns.set (ns.length - 1) mx).map V.int))) D _ := ow8.self
              have kd9 : ∀ b o, Own st H b o → Own st (L2.upd H8 D (.lst ((ns.set (ns.length - 1) mx).map V.int))) b o := fun b o h => ow8.put (kd8 _ _ h) (hDf b o h)
              obtain ⟨H9, hH9⟩ : ∃ H9, H9 = L2.upd H8 D (.lst ((ns.set (ns.length - 1) mx).map V.int)) := ⟨_, rfl⟩
              rw [← hH9] at S9 ow9 kd9 ⊢
              have hmb : ∀ n ∈ ns.set (ns.length - 1) mx, n.natAbs ≤ 1000000000000 := by
                intro n hn
                rcases List.mem_or_eq_of_mem_set hn with e | e
                · exact hnb n e
                · omega
              -- last = row.pop()
              refine ⟨_, rfl, .inl ⟨rfl, _, SqL.of ow9.1⟩, D, _, V.int mx, rfl, rfl, ow9.1, ?_, ?_⟩
              · rw [List.length_map, List.length_set, List.getElem?_map, List.getElem?_set_self (by omega)]
                rfl
              rw [show ((ns.set (ns.length - 1) mx).map V.int).dropLast = ((ns.set (ns.length - 1) mx).dropLast).map V.int by rw [List.map_dropLast]]
              obtain ⟨ms, hms⟩ : ∃ ms, ms = (ns.set (ns.length - 1) mx).dropLast := ⟨_, rfl⟩
              have hmsl : ms.length = ns.length - 1 := by rw [hms, List.length_dropLast, List.length_set]
              have hmsb : ∀ n ∈ ms, n.natAbs ≤ 1000000000000 := fun n hn => hmb n (List.dropLast_subset _ (hms ▸ hn))
              rw [← hms]
              have S10 := S9.put (v := .lst (ms.map V.int)) ow9
              have ow10 : Own st (L2.upd H9 D (.lst (ms.map V.int))) D _ := ow9.self
              have kd10 : ∀ b o, Own st H b o → Own st (L2.upd H9 D (.lst (ms.map V.int))) b o := fun b o h => ow9.put (kd9 _ _ h) (hDf b o h)
              -- row.insert(..)
              refine ⟨_, rfl, .inl ⟨rfl, _, SqL.of ow10.1⟩, ?_⟩
              refine ⟨_, rfl, _, rfl, D, _, rfl, .inl (SqL.of ow10.1), _, _, rfl, rfl, st, _, _, rfl, S10, by omega, by omega, by rw [List.length_map]; omega, fun p H11 p0 p1 S11 kd11 => ?_⟩
              rw [List.length_map] at p1
              have ow11 := kd11 _ _ ow10
              refine ⟨_, rfl, D, _, p, V.int mx, rfl, rfl, ow11.1, ?_, p0, by omega, ?_⟩
              · rw [List.length_map]
                exact small1000 (by omega)
              · have em : (ms.map V.int).take p.toNat ++ [V.int mx] ++ (ms.map V.int).drop p.toNat = (ms.take p.toNat ++ [mx] ++ ms.drop p.toNat).map V.int := by simp
                rw [em]
                refine ⟨(S11.put ow11).mono (by omega), fun b o h => ow11.put (kd11 _ _ (kd10 _ _ h)) (hDf b o h), ⟨_, ?_, ?_, ow11.self⟩, _, _, rfl⟩
                · have : (ms.take p.toNat ++ [mx] ++ ms.drop p.toNat).length = ms.length + 1 := by
                    simp
                    omega
                  omega
                · intro n hn
                  rcases List.mem_append.mp hn with hn | hn
                  · rcases List.mem_append.mp hn with hn | hn
                    · exact hmsb n (List.mem_of_mem_take hn)
                    · cases List.mem_singleton.mp hn; omega
                  · exact hmsb n (List.mem_of_mem_drop hn)
          · exact ⟨S4.mono (by omega), kd04, ⟨ns, hnl6, hnb, ow⟩, _, _, rfl⟩
      · rintro σ H5 ⟨S5, kd5, ⟨ms, hml, hmb, ow5⟩, x, y, rfl⟩
        exact ⟨_, rfl, k D ms H5 hDf ow5 hml hmb S5 kd5⟩
end
end OS
namespace OS
open PySem L2
def spRt (K : PySem.W.Frag) : Sp := fun vs H Q _ => ∃ (a : Addr) (ns : List Int), vs = [.ref a] ∧ SqL K H a (ns.map V.int) ∧ ns.length ≤ 6 ∧ (∀ n ∈ ns, n.natAbs ≤ 1000000000000) ∧ ∀ H', Same H H' → Q (.bl true) H'
theorem kbOne {K : PySem.W.Frag} {x qual : Str} {st : Stmt} {f : Addr} {fd : FuncData} {ps ks : List Str} (F : Fun K x qual st f fd)
    (h : ∀ (kV doc pm : Value) (an : Option Addr) (cdv ct : Value) (us ws : List Value), us.length = 0 → ws.length = ks.length → bindArgs (PySem.W.fnOf x qual (defArgs st) (defBody st) (defScope st) .none kV doc pm an cdv ct) ⟨us, ks.zip ws⟩ = pure (ps.zip (us ++ ws))) :
    KBn K fd ps 0 ks (fun us ws => us ++ ws) (fun vs zs => vs ++ zs) :=
  kb_of F 0 ks (fun us ws => us ++ ws) (fun r1 r2 => r1.append r2) h
theorem StD.same {H H' : Hp} {st : Addr} {m : Nat} (S : StD H st m) (s : Same H H') : StD H' st m := by
  obtain ⟨bl, cl, c, bs, ns, x, a⟩ := S.ex
  exact ⟨bl, cl, c, bs, ns, ⟨s _ _ x.s, s _ _ x.b, s _ _ x.k, x.nb, x.nc, x.bc⟩, a⟩
def rTupK (K : PySem.W.Frag) : List V → Hp → VK → Prop := fun xs H Q => ∃ p ys, xs = [V.ref p] ∧ ((SqL K H p ys ∧ ∀ (l : Addr), H l = none → Q (V.ref l) (L2.upd H l (HO.tup ys))) ∨ SqT K H p ys ∧ Q (V.ref p) H)
def rLstK (K : PySem.W.Frag) : List V → Hp → VK → Prop := fun xs H Q => ∃ p ys, xs = [V.ref p] ∧ (SqL K H p ys ∨ SqT K H p ys) ∧ ∀ (l : Addr), H l = none → Q (V.ref l) (L2.upd H l (HO.lst ys))
theorem call_tuple_K {X : Cx} (K : PySem.W.Frag) (h : X.K = K) : CallR X (.type "tuple") (rTupK K) := by subst h; exact call_tuple_of
theorem call_list_K {X : Cx} (K : PySem.W.Frag) (h : X.K = K) : CallR X (.type "list") (rLstK K) := by subst h; exact call_list_of
theorem call_isi_K {X : Cx} (K : PySem.W.Frag) (h : X.K = K) : CallR X (.builtin "isinstance") (rIsi K) := by subst h; exact call_isi
theorem op_eqD_K {X : Cx} (K : PySem.W.Frag) (h : X.K = K) (hu : X.A.units + 64 < cLine) : OpR X (compareOp .Eq) (rEqD K) := by subst h; exact op_eqD hu
theorem op_in_K {X : Cx} (K : PySem.W.Frag) (h : X.K = K) : OpR X (compareOp .In) (rIn K false) := by subst h; exact op_in_seq
theorem pass0S {X : Cx} : ∀ σ, PassesAt CX0 X σ E0 := fun σ pins H s e s' I h => pass0 pins σ H s e s' I h
theorem tyx_tup {K : PySem.W.Frag} {H : Hp} {a : Addr} {xs : List V} (h : SqT K H a xs) : TyX K H (.ref a) (.type "tuple") := by
  rcases h with h | ⟨o, its, n, h1, h2, _⟩
  · rcases h with h | ⟨o, h⟩
    · exact .base (.tup h)
    · exact .fTuple h
  · exact .kTuple h1 h2
theorem isB_uniq {ss : List Int} {b c : Nat} (h1 : isB ss b) (h2 : isB ss c) : b = c := by
  rcases Nat.lt_trichotomy b c with q | q | q
  · obtain ⟨s, hs, hg⟩ := h2.2.2 b h1.1 q
    exact absurd (h1.2.1 s hs) hg
  · exact q
  · obtain ⟨s, hs, hg⟩ := h1.2.2 c h2.1 q
    exact absurd (h2.2.1 s hs) hg
theorem same_put {H H1 : Hp} {D : Addr} {o : HO} (s : Same H H1) (h : H D = none) : Same H (L2.upd H1 D o) := fun b u e => by
  rw [upd_ne (ne_of_none e h)]
  exact s b u e
section
variable {P : Program} {w : World} {K : PySem.W.Frag} {mg : Str → Option Value} {base : Heap}
abbrev nRt : List Str := ["_law_row", "_law_expected", "_law_passed", "_law_sums_here", "_law_one", "_law_actual", "e"]
theorem scRt : FnScope nRt ["_law_row"] (defScope s_right) := ⟨rfl, rfl, rfl, by decide +kernel, rfl, by decide +kernel, by decide +kernel⟩
theorem ok_rt {f C fC ONE fU fI fB fP fL : Addr} {fd dU dI dB dP dL : FuncData} (F : Fun K "_law_right" "_law_right" s_right f fd) (T : BiI mg) (T2 : BiD mg) (U : ErrC K mg "ZeroSum" C fC "numbers") (XC : ExcC K C) (mONE : mg "OneshardError" = some (.ref ONE)) (sub : PySem.W.kitOne K (.ref C) (.ref ONE) = some true)
    (EU : FnOk P w K mg base CX0 1 fU dU ["_law_row"] (spSums K)) (GU : Df K mg "_law_sums" fU) (bU : Binds K dU ["_law_row"] [])
    (EI : FnOk P w K mg base CX0 1 fI dI ["_law_actual"] spII) (GI : Df K mg "_law_is_integer" fI) (bI : Binds K dI ["_law_actual"] [])
    (EB : FnOk P w K mg base CX0 2 fB dB ["_law_sums_here"] (spBase K)) (GB : Df K mg "_law_base" fB) (bB : Binds K dB ["_law_sums_here"] [])
    (EP : FnOk P w K mg base CX0 1 fP dP ["numbers"] (spPs K)) (GP : Df K mg "partial_sums" fP) (bP : Binds K dP ["numbers"] []) (kP : KBn K dP ["numbers"] 0 ["numbers"] (fun us ws => us ++ ws) (fun vs zs => vs ++ zs))
    (EL : FnOk P w K mg base (L2.CX P w) 3 fL dL ["numbers"] (spLb K C)) (GL : Df K mg "least_base" fL) (bL : Binds K dL ["numbers"] []) (kL : KBn K dL ["numbers"] 0 ["numbers"] (fun us ws => us ++ ws) (fun vs zs => vs ++ zs)) : FnOk P w K mg base CX0 4 f fd ["_law_row"] (spRt K) := by
  refine F.ok scRt (fun vs H Q E h => ?_) (fun cdv A outer s H vs Q E hr h => ?_)
  · obtain ⟨a, ns, rfl, _⟩ := h
    rfl
  · obtain ⟨a, ns, rfl, hS, hl, hb, k⟩ := h
    have hr1 : Room 1 _ := hr.mono (by decide)
    have hr2 : Room 2 _ := hr.mono (by decide)
    have hun := hr.units
    refine ⟨_, pss_cons (ps_set (i := 1) scRt.nd rfl (Or.inl rfl) (pe_call EU hr1 rfl GU.mg GU.kp bU .nil pass0 (pa_cons (pv 0) pa_nil)))
      (pss_cons (ps_set (i := 2) scRt.nd rfl (Or.inl rfl) (pe_callTy call_list_of (by rfl) T2.list (by decide +kernel) (pa_cons (pv 0) pa_nil)))
      (pss_cons (ps_set (i := 3) scRt.nd rfl (Or.inl rfl) (pe_callKS0 EP hr1 rfl GP.mg GP.kp kP (E := fun _ => E0) pass0S (pk_cons (pv 2) pk_nil)))
      (pss_cons (ps_if (PW.pt (pw_or (pt_not (pt_val (pe_callB call_isi (by rfl) T.isi (by decide +kernel) (pa_cons (pv 3) (pa_cons (pe_bltn (v := V.ty "list") (u := .type "list") (by rfl) T2.list (by decide +kernel) rfl) pa_nil)))))
          (pw_or (pt_cmpR (op_neD hun) (pv 3) (pv 1) (nomark _)) (pw_or1 (pt_cmpR (op_neD hun) (pv 2) (pv 0) (nomark _)))))) (pss_one (ps_ret pe_bl)) pss_nil)
      (pss_cons (ps_for PassesOwn.never rfl (pi_list (pv 3)) (pg_name (i := 4) scRt.nd rfl (Or.inl rfl)) (pss_one (ps_if (pt_not (pt_val (pe_call EI hr1 rfl GI.mg GI.kp bI .nil pass0 (pa_cons (pv 4) pa_nil)))) (pss_one (ps_ret pe_bl)) pss_nil)))
      (pss_cons (ps_expr (pe_bm PySem.F.plainAttrs_list PySem.F.slot_list_append PySem.F.type_list_append mt_append (pv 3) (pa_cons pe_int pa_nil)))
      (pss_cons (ps_if (PW.pt (pw_or (pt_cmpR (op_neD hun) (pe_call EP hr1 rfl GP.mg GP.kp bP .nil pass0 (pa_cons (pv 2) pa_nil)) (pv 1) (nomark _))
          (pw_or1 (pt_cmpR (op_neD hun) (pe_call EP hr1 rfl GP.mg GP.kp bP .nil pass0 (pa_cons (pe_callTy call_tuple_of (by rfl) T.tup (by decide +kernel) (pa_cons (pv 0) pa_nil)) pa_nil)) (pv 1) (nomark _))))) (pss_one (ps_ret pe_bl)) pss_nil)
      (pss_cons (ps_set (i := 5) scRt.nd rfl (Or.inl rfl) pe_non)
      (C8.pss_cut (ps_try_as (i := 6) (Wout := fun _ _ _ _ => False) rfl rfl scRt.nd rfl rfl ⟨rfl, by decide, Or.inl U.mg⟩ takes0
        (fun W pn xe tk _ => pss_cons (ps_set (i := 5) scRt.nd rfl (Or.inl rfl) (by exact (pe_callKS0 EL hr rfl GL.mg GL.kp kL (fun σ => passAt tk σ) (by exact (pk_cons (pv 2) pk_nil)))))
          (pss_one (ps_if (pt_cmpR op_ne (by exact (pe_callS EL hr rfl GL.mg GL.kp bL (fun σ => passAt tk σ) (by exact (pa_cons (pe_callTy (call_tuple_K K rfl) (by rfl) T.tup (by decide +kernel) (pa_cons (pv 0) pa_nil)) pa_nil)))) (pv 5) (nomark _)) (pss_one (ps_ret pe_bl)) pss_nil)))
        (fun a oe cls dd pn hz hf => pss_cons (ps_if (PW.pt (pw_or (pt_not (pt_val (pe_callB (call_isEd XC hz hf) (by rfl) T.isi (by decide +kernel) (pa_cons (pv 6) (pa_cons (pe_glob (v := V.ref ONE) rfl mONE rfl) pa_nil)))))
            (pw_or1 (pt_not (pt_val (pe_callB (call_isi_K K rfl) (by rfl) T.isi (by decide +kernel) (pa_cons (by exact (pe_xf U.xf U.no hz hf (pv 6))) (pa_cons (pe_bltn (v := V.ty "tuple") (u := .type "tuple") (by rfl) T.tup (by decide +kernel) rfl) pa_nil)))))))) (pss_one (ps_ret pe_bl)) pss_nil)
          (pss_one (ps_ret (pe_and (pe_cmpR (op_in_K K rfl) pe_int (pv 1) (by rfl)) (pe_one (pe_cmpR (op_eqD_K K rfl hun) (pe_callTy (call_list_K K rfl) (by rfl) T2.list (by decide +kernel) (pa_cons (by exact (pe_xf U.xf U.no hz hf (pv 6))) pa_nil)) (pv 0) (nomark _))))))))
      (pss_cons (ps_if (PW.pt (pw_or (pt_cmpR (op_neD hun) (pv 2) (pv 0) (nomark _)) (pw_or1 (pt_cmpR op_in_seq pe_int (pv 1) (by rfl))))) (pss_one (ps_ret pe_bl)) pss_nil)
      (pss_one (ps_ret (pe_and (pe_call EI hr1 rfl GI.mg GI.kp bI .nil pass0 (pa_cons (pv 5) pa_nil)) (pe_one (pe_cmpR op_eq (pv 5) (pe_call EB hr2 rfl GB.mg GB.kp bB .nil pass0 (pa_cons (pv 1) pa_nil)) (nomark _))))))))))))))), ?_⟩
    obtain ⟨t, ht⟩ : ∃ t, t = tabT ns ns.length := ⟨_, rfl⟩
    have htl : t.length ≤ 63 := by
      rw [ht, tab_len]
      have : 2 ^ ns.length ≤ 2 ^ 6 := Nat.pow_le_pow_right (by decide) hl
      omega
    have hb' : ∀ n ∈ ns, n.natAbs ≤ 2 ^ 114 := fun n hn => Nat.le_trans (hb n hn) (by decide)
    have eqt : PyData.eqv (.list (t.map PyData.int)) (.list (t.map PyData.int)) = true := SeqAt.eqv_refl _ (SeqAt.canLay_of_shaped (intsL_shaped t))
    have eqn : PyData.eqv (.list (ns.map PyData.int)) (.list (ns.map PyData.int)) = true := SeqAt.eqv_refl _ (SeqAt.canLay_of_shaped (intsL_shaped ns))
    refine ⟨_, rfl, a, ns, rfl, hS, hl, fun U1 H1 hU s1 hU1 => ?_⟩
    rw [← ht] at hU1
    refine ⟨_, rfl, a, _, rfl, .inl (s1.seq hS), fun p hp => ?_⟩
    obtain ⟨H2, hH2⟩ : ∃ H2, H2 = L2.upd H1 p (.lst (ns.map V.int)) := ⟨_, rfl⟩
    have s2 : Same H1 H2 := by rw [hH2]; exact sameUpd (Same.refl _) hp
    have hp2 : H2 p = some (.lst (ns.map V.int)) := by rw [hH2]; exact upd_same
    have hU2 := s2 _ _ hU1
    have hS2 := (s1.trans s2).seq hS
    rw [← hH2]
    refine ⟨_, rfl, rfl, p, ns, rfl, .inl (SqL.of hp2), hl, fun D H3 hD s3 hD3 => ?_⟩
    rw [← ht] at hD3
    refine ⟨_, rfl, _, _, _, _, true, rfl, .ty "list", .base (.lst hD3), kit_ty (by decide +kernel), true, rfl, ?_⟩
    refine iteF ?_
    refine ⟨_, rfl, _, rfl, _, _, .lst (SqL.of hD3) (ints_dp t), .lst (SqL.of (s3 _ _ hU2)) (ints_dp t), intsL_shaped t, intsL_shaped t, _, rfl, ?_⟩
    rw [eqt]
    refine iteF ?_
    refine ⟨_, rfl, _, rfl, _, _, .lst (SqL.of (s3 _ _ hp2)) (ints_dp ns), .lst (s3.seq hS2) (ints_dp ns), intsL_shaped ns, intsL_shaped ns, _, rfl, ?_⟩
    rw [eqn]
    refine iteF ?_
    refine ⟨_, rfl, D, rfl, ⟨_, SqL.of hD3⟩, for_list (K := K) (a := D) (xs := t.map V.int) (fun i σ H' => H' = H3 ∧ ∃ v, σ = [some (.ref a), some (.ref U1), some (.ref p), some (.ref D), v, none, none]) ⟨rfl, none, rfl⟩ (fun i σ H' _ h => h.1 ▸ SqL.of hD3) ?_ ?_⟩
    · rintro i x σ H' hi ⟨rfl, v, rfl⟩
      obtain ⟨z, hz, rfl⟩ : ∃ z, t[i]? = some z ∧ x = V.int z := by
        rw [List.getElem?_map] at hi
        cases e : t[i]? with
        | none => rw [e] at hi; cases hi
        | some z => rw [e] at hi; exact ⟨z, rfl, (Option.some.inj hi).symm⟩
      refine ⟨_, rfl, z, rfl, true, rfl, ?_⟩
      refine iteF ?_
      exact ⟨rfl, _, rfl⟩
    rintro σ H3' ⟨rfl, v, rfl⟩
    refine ⟨_, rfl, .inl ⟨rfl, _, SqL.of hD3⟩, D, _, _, rfl, rfl, hD3, ?_, ?_⟩
    · rw [List.length_map]
      exact small1000 (by omega)
    obtain ⟨H4, hH4⟩ : ∃ H4, H4 = L2.upd H3' D (.lst (t.map V.int ++ [V.int 7])) := ⟨_, rfl⟩
    have s4 : Same H2 H4 := by rw [hH4]; exact same_put s3 hD
    rw [← hH4]
    refine ⟨_, rfl, p, ns, rfl, .inl (SqL.of (s4 _ _ hp2)), hl, fun D5 H5 hD5 s5 hD55 => ?_⟩
    rw [← ht] at hD55
    have s25 := s4.trans s5
    refine ⟨_, rfl, _, _, .lst (SqL.of hD55) (ints_dp t), .lst (SqL.of (s25 _ _ hU2)) (ints_dp t), intsL_shaped t, intsL_shaped t, _, rfl, ?_⟩
    rw [eqt]
    refine iteF ?_
    refine ⟨_, rfl, a, _, rfl, .inl ⟨s25.seq hS2, fun T6 hT6 => ?_⟩⟩
    refine ⟨T6, ns, rfl, .inr (SqT.of upd_same), hl, fun D7 H7 hD7 s7 hD77 => ?_⟩
    rw [← ht] at hD77
    have s27 := (s25.trans (sameUpd (Same.refl _) hT6)).trans s7
    refine ⟨_, rfl, _, _, .lst (SqL.of hD77) (ints_dp t), .lst (SqL.of (s27 _ _ hU2)) (ints_dp t), intsL_shaped t, intsL_shaped t, _, rfl, ?_⟩
    rw [eqt]
    refine iteF ?_
    refine ⟨fun σ H' => Same H2 H' ∧ 0 ∉ t ∧ ∃ (v : Option V) (b : Nat), isB t b ∧ b < 5500 ∧ σ = [some (.ref a), some (.ref U1), some (.ref p), some (.ref D), v, some (.int b), none], ?_, ?_⟩
    · refine ⟨_, rfl, rfl, p, ns, rfl, .inl (SqL.of (s27 _ _ hp2)), hl, hb', fun hz b H8 hB hb5 s8 => ?_, fun hz dd T H8 nd hdd hT s8 => ?_⟩
      · rw [← ht] at hz hB
        have s28 := s27.trans s8
        refine ⟨_, rfl, a, _, rfl, .inl ⟨s28.seq hS2, fun T9 hT9 => ?_⟩⟩
        refine ⟨T9, ns, rfl, .inr (SqT.of upd_same), hl, hb', fun hz2 b2 H9 hB2 hb52 s9 => ?_, fun hz2 => ?_⟩
        · rw [← ht] at hB2
          have := isB_uniq hB2 hB
          subst this
          refine ⟨_, rfl, rfl, _, rfl, ?_⟩
          have e0 : decide (V.int (b2 : Int) = V.int (b2 : Int)) = true := decide_eq_true rfl
          rw [e0]
          refine iteF ?_
          exact ⟨(s28.trans (sameUpd (Same.refl _) hT9)).trans s9, hz, _, b2, hB, hb5, rfl⟩
        · rw [← ht] at hz2
          exact absurd hz2 hz
      · rw [← ht] at hz
        have s28 := s27.trans s8
        refine ⟨true, U.te, fun _ a0 na => ?_, fun q => Bool.noConfusion q⟩
        refine ⟨_, rfl, _, _, true, rfl, rfl, ⟨dd, _, rfl, hdd⟩, (fun u hu => hu), sub, true, rfl, ?_⟩
        refine iteF ?_
        refine ⟨_, rfl, rfl, rfl, dd, _, _, rfl, hdd, rfl, _, _, _, _, true, rfl, .ty "tuple", tyx_tup hT, kit_ty (by decide +kernel), true, rfl, ?_⟩
        refine iteF ?_
        refine ⟨_, rfl, U1, _, rfl, .inl (SqL.of (s28 _ _ hU2)), rfl, List.all_eq_true.mpr (flat_ints t), _, rfl, ?_⟩
        rw [inV_zero, decide_eq_true hz]
        refine iteT ?_
        refine ⟨_, rfl, rfl, rfl, dd, _, _, rfl, hdd, rfl, T, _, rfl, .inr hT, fun l hl9 => ?_⟩
        have s9 := sameUpd (o := .lst (ns.map V.int)) (Same.refl H8) hl9
        refine ⟨_, rfl, _, _, .lst (SqL.of upd_same) (ints_dp ns), .lst ((s28.trans s9).seq hS2) (ints_dp ns), intsL_shaped ns, intsL_shaped ns, ?_⟩
        rw [eqn]
        exact k _ ((s1.trans s2).trans (s28.trans s9))
    · rintro σ H8 ⟨s28, hz, v, b, hB, hb5, rfl⟩
      refine ⟨_, rfl, _, rfl, _, _, .lst (SqL.of (s28 _ _ hp2)) (ints_dp ns), .lst (s28.seq hS2) (ints_dp ns), intsL_shaped ns, intsL_shaped ns, _, rfl, ?_⟩
      rw [eqn]
      refine iteF ?_
      refine ⟨_, rfl, U1, _, rfl, .inl (SqL.of (s28 _ _ hU2)), rfl, List.all_eq_true.mpr (flat_ints t), _, rfl, ?_⟩
      rw [inV_zero, decide_eq_false hz]
      refine iteF ?_
      refine ⟨_, rfl, _, rfl, true, rfl, ?_⟩
      refine iteT ?_
      refine ⟨_, rfl, _, rfl, U1, t, b, rfl, SqL.of (s28 _ _ hU2), htl, hB, hb5, fun H9 s9 => ?_⟩
      refine ⟨rfl, ?_⟩
      have e0 : decide (V.int (b : Int) = V.int (b : Int)) = true := decide_eq_true rfl
      rw [e0]
      exact k _ ((s1.trans s2).trans (s28.trans s9))
end
end OS
namespace OS
open PySem L2
def spLaw (K : PySem.W.Frag) : Sp := fun vs H Q _ => ∃ (a : Addr) (ns : List Int), vs = [.ref a] ∧ SqL K H a (ns.map V.int) ∧ ns.length ≤ 63 ∧ ∀ H', Q (.bl true) H'
section
variable {P : Program} {w : World} {K : PySem.W.Frag} {mg : Str → Option Value} {base : Heap}
abbrev nLaw : List Str := ["_law_script", "_law_state", "_law_turn", "_law_first", "_law_second", "_law_third", "_law_one", "_law_actual"]
theorem scLaw : FnScope nLaw ["_law_script"] (defScope sLaw) := ⟨rfl, rfl, rfl, by decide +kernel, rfl, by decide +kernel, by decide +kernel⟩
theorem ok_law {f fS fD fN fR fI fP : Addr} {fd dS dD dN dR dI dP : FuncData} (F : Fun K "law" "law" sLaw f fd) (mR : mg "range" = none) (T : BiI mg)
    (ES : FnOk P w K mg base CX0 1 fS dS ["_law_script"] (spStartD K)) (GS : Df K mg "_law_start" fS) (bS : Binds K dS ["_law_script"] [])
    (ED : FnOk P w K mg base CX0 1 fD dD ["_law_state", "_law_size"] spDraw) (GD : Df K mg "_law_draw" fD) (bD : Binds K dD ["_law_state", "_law_size"] [])
    (EN : FnOk P w K mg base CX0 2 fN dN ["_law_state"] spNums) (GN : Df K mg "_law_numbers" fN) (bN : Binds K dN ["_law_state"] [])
    (ER : FnOk P w K mg base CX0 4 fR dR ["_law_row"] (spRt K)) (GR : Df K mg "_law_right" fR) (bR : Binds K dR ["_law_row"] [])
    (EI : FnOk P w K mg base CX0 1 fI dI ["number"] spPr) (GI : Df K mg "is_prime" fI) (kI : KBn K dI ["number"] 0 ["number"] (fun us ws => us ++ ws) (fun vs zs => vs ++ zs))
    (EP : FnOk P w K mg base CX0 1 fP dP ["_law_one"] spPrL) (GP : Df K mg "_law_prime" fP) (bP : Binds K dP ["_law_one"] []) : FnOk P w K mg base CX0 5 f fd ["_law_script"] (spLaw K) := by
  refine F.ok scLaw (fun vs H Q E h => ?_) (fun cdv A outer s H vs Q E hr h => ?_)
  · obtain ⟨a, ns, rfl, _⟩ := h
    rfl
  · obtain ⟨a, ns, rfl, hS, hn, k⟩ := h
    have hr1 : Room 1 _ := hr.mono (by decide)
    have hr2 : Room 2 _ := hr.mono (by decide)
    refine ⟨_, pss_cons (ps_set (i := 1) scLaw.nd rfl (Or.inl rfl) (pe_call ES hr1 rfl GS.mg GS.kp bS .nil pass0 (pa_cons (pv 0) pa_nil)))
      (C8.pss_cut (ps_for PassesOwn.never rfl (pi_range1 rfl mR (pa_cons pe_int pa_nil)) (pg_name (i := 2) scLaw.nd rfl (Or.inl rfl))
        (pss_one (ps_if (pt_not (pt_val (pe_call ER hr rfl GR.mg GR.kp bR .nil pass0 (pa_cons (pe_call EN hr2 rfl GN.mg GN.kp bN .nil pass0 (pa_cons (pv 1) pa_nil)) pa_nil)))) (pss_one (ps_ret pe_bl)) pss_nil)))
      (pss_cons (ps_for PassesOwn.never rfl (pi_range1 rfl mR (pa_cons pe_int pa_nil)) (pg_name (i := 2) scLaw.nd rfl (Or.inl rfl))
        (pss_cons (ps_set (i := 3) scLaw.nd rfl (Or.inl rfl) (pe_call ED hr1 rfl GD.mg GD.kp bD .nil pass0 (pa_cons (pv 1) (pa_cons (pe_op op_add (pe_op op_pow pe_int pe_int) pe_int) pa_nil))))
        (pss_cons (ps_set (i := 4) scLaw.nd rfl (Or.inl rfl) (pe_op op_add pe_int (pe_call ED hr1 rfl GD.mg GD.kp bD .nil pass0 (pa_cons (pv 1) (pa_cons pe_int pa_nil)))))
        (pss_cons (ps_set (i := 5) scLaw.nd rfl (Or.inl rfl) (pe_op op_add pe_int (pe_call ED hr1 rfl GD.mg GD.kp bD .nil pass0 (pa_cons (pv 1) (pa_cons pe_int pa_nil)))))
        (pss_one (ps_for PassesOwn.never rfl (pi_list (pe_lst (pa_cons (pv 3) (pa_cons (pe_op op_mul (pv 4) (pv 5)) (pa_cons (pe_op op_mul (pv 4) (pv 4)) (pa_cons (pv 4) (pa_cons (pe_op op_sub (pe_call ED hr1 rfl GD.mg GD.kp bD .nil pass0 (pa_cons (pv 1) (pa_cons pe_int pa_nil))) pe_int) pa_nil))))))) (pg_name (i := 6) scLaw.nd rfl (Or.inl rfl))
          (pss_cons (ps_set (i := 7) scLaw.nd rfl (Or.inl rfl) (pe_callKS0 EI hr1 rfl GI.mg GI.kp kI (E := fun _ => E0) pass0S (pk_cons (pv 6) pk_nil)))
          (pss_one (ps_if (PW.pt (pw_or (pt_not (pt_val (pe_callB call_isi (by rfl) T.isi (by decide +kernel) (pa_cons (pv 7) (pa_cons (pe_bltn (v := V.ty "bool") (u := .type "bool") (by rfl) T.bool (by decide +kernel) rfl) pa_nil)))))
            (pw_or1 (pt_cmpR op_ne (pv 7) (pe_call EP hr1 rfl GP.mg GP.kp bP .nil pass0 (pa_cons (pv 6) pa_nil)) (nomark _))))) (pss_one (ps_ret pe_bl)) pss_nil)))))))))
      (pss_one (ps_ret pe_bl)))), ?_⟩
    refine ⟨_, rfl, a, ns, rfl, hS, hn, fun st H1 S1 s1 hst ow1 => ?_⟩
    refine ⟨fun σ H' => StD H' st 100 ∧ ∃ v, σ = [some (.ref a), some (.ref st), v, none, none, none, none, none], ?_, ?_⟩
    · refine ⟨2, rfl, by decide, by decide, for_range (lo := 0) (n := 2) (fun i σ H' => StD H' st (40 * i) ∧ ∃ v, σ = [some (.ref a), some (.ref st), v, none, none, none, none, none]) ⟨S1, none, rfl⟩ ?_ ?_⟩
      · rintro i σ H2 hi ⟨S2, v, rfl⟩
        refine ⟨_, rfl, st, _, rfl, S2, by omega, fun D ms H3 hD ow hl hb S3 kd3 => ?_⟩
        refine ⟨D, ms, rfl, SqL.of ow.1, hl, hb, fun H4 s4 => ?_⟩
        refine ⟨true, rfl, ?_⟩
        refine iteF ?_
        exact ⟨(S3.same s4).mono (by omega), _, rfl⟩
      · rintro σ H2 ⟨S2, v, rfl⟩
        exact ⟨S2.mono (by omega), v, rfl⟩
    · rintro σ H2 ⟨S2, v, rfl⟩
      refine ⟨2, rfl, by decide, by decide, for_range (lo := 0) (n := 2) (fun i σ H' => StD H' st (100 + 10 * i) ∧ ∃ v1 v2 v3 v4 v5 v6, σ = [some (.ref a), some (.ref st), v1, v2, v3, v4, v5, v6]) ⟨S2, _, _, _, _, _, _, rfl⟩ ?_ ?_⟩
      · rintro i σ H3 hi ⟨S3, v1, v2, v3, v4, v5, v6, rfl⟩
        have e6 : ((10 : Int) ^ (6 : Int).toNat) = 1000000 := by decide
        refine ⟨_, rfl, _, _, rfl, rfl, ⟨by decide, by decide, by decide⟩, _, _, rfl, rfl, st, _, _, rfl, S3, by omega, by rw [e6]; decide, by rw [e6]; decide, fun x1 H4 a0 a1 S4 kd4 => ?_⟩
        rw [e6] at a1
        refine ⟨_, rfl, st, _, _, rfl, S4, by omega, by decide, by decide, fun x2 H5 b0 b1 S5 kd5 => ?_⟩
        refine ⟨_, _, rfl, rfl, ?_⟩
        refine ⟨_, rfl, st, _, _, rfl, S5, by omega, by decide, by decide, fun x3 H6 c0 c1 S6 kd6 => ?_⟩
        refine ⟨_, _, rfl, rfl, ?_⟩
        obtain ⟨y2, hy2⟩ : ∃ y2 : Int, y2 = 2 + x2 := ⟨_, rfl⟩
        obtain ⟨y3, hy3⟩ : ∃ y3 : Int, y3 = 2 + x3 := ⟨_, rfl⟩
        rw [show (fun i j => V.int (i + j)) 2 x2 = V.int y2 by rw [hy2], show (fun i j => V.int (i + j)) 2 x3 = V.int y3 by rw [hy3]]
        refine ⟨_, rfl, _, rfl, _, rfl, _, _, rfl, rfl, .inl ⟨by omega, by omega⟩, _, rfl, _, rfl, _, _, rfl, rfl, .inl ⟨by omega, by omega⟩, _, rfl, ?_⟩
        refine ⟨_, rfl, st, _, _, rfl, S6, by omega, by decide, by decide, fun x4 H7 d0 d1 S7 kd7 => ?_⟩
        refine ⟨_, _, rfl, rfl, by show 5 ≤ sizeLine; decide, fun l hl => ?_⟩
        have hmul : ∀ x y : Int, 2 ≤ x → x ≤ 1000 → 2 ≤ y → y ≤ 1000 → 0 ≤ x * y ∧ x * y ≤ 1000000 := by
          intro x y h1 h2 h3 h4
          refine ⟨Int.mul_nonneg (by omega) (by omega), ?_⟩
          calc x * y ≤ 1000 * 1000 := Int.mul_le_mul h2 h4 (by omega) (by decide)
            _ = 1000000 := by decide
        have hm1 := hmul y2 y3 (by omega) (by omega) (by omega) (by omega)
        have hm2 := hmul y2 y2 (by omega) (by omega) (by omega) (by omega)
        obtain ⟨zs, hzs⟩ : ∃ zs : List Int, zs = [x1, y2 * y3, y2 * y2, y2, x4 - 5] := ⟨_, rfl⟩
        have hzb : ∀ z ∈ zs, -10 ≤ z ∧ z ≤ 1000001 := by
          intro z hz
          rw [hzs] at hz
          simp only [List.mem_cons, List.not_mem_nil, or_false] at hz
          rcases hz with rfl | rfl | rfl | rfl | rfl <;> omega
        have S8 := S7.new (o := .lst (zs.map V.int)) hl
        have el : (L2.upd H7 l (.lst (zs.map V.int))) l = some (.lst (zs.map V.int)) := upd_same
        have ez : (HO.lst [V.int x1, V.int (y2 * y3), V.int (y2 * y2), V.int y2, V.int (x4 - 5)]) = HO.lst (zs.map V.int) := by rw [hzs]; rfl
        obtain ⟨H8, hH8⟩ : ∃ H8, H8 = L2.upd H7 l (HO.lst [V.int x1, V.int (y2 * y3), V.int (y2 * y2), V.int y2, V.int (x4 - 5)]) := ⟨_, rfl⟩
        have eH : H8 = L2.upd H7 l (.lst (zs.map V.int)) := by rw [hH8, ez]
        rw [← eH] at S8 el
        show _
        refine ⟨l, rfl, ⟨_, SqL.of (hH8 ▸ el)⟩, ?_⟩
        refine for_list (K := K) (a := l) (xs := zs.map V.int) (fun i' σ H' => H' = H8 ∧ ∃ w1 w2, σ = [some (.ref a), some (.ref st), some (.int (0 + (i : Int))), some (.int x1), some (.int y2), some (.int y3), w1, w2]) ⟨hH8.symm, _, _, rfl⟩ (fun i σ H' _ h => h.1 ▸ SqL.of el) ?_ ?_
        · rintro j x σ H' hj ⟨rfl, w1, w2, rfl⟩
          obtain ⟨z, hz, rfl⟩ : ∃ z, zs[j]? = some z ∧ x = V.int z := by
            rw [List.getElem?_map] at hj
            cases e : zs[j]? with
            | none => rw [e] at hj; cases hj
            | some z => rw [e] at hj; exact ⟨z, rfl, (Option.some.inj hj).symm⟩
          obtain ⟨z0, z1⟩ := hzb z (List.mem_of_getElem? hz)
          refine ⟨_, rfl, rfl, z, rfl, by omega, fun b1 hb1 => ?_⟩
          refine ⟨_, rfl, _, _, _, _, true, rfl, .ty "bool", .base (.bl b1), kit_ty (by decide +kernel), true, rfl, ?_⟩
          refine iteF ?_
          refine ⟨_, rfl, _, rfl, z, rfl, by omega, by omega, fun b2 hb2 => ?_⟩
          have e : b2 = b1 := by
            cases b1 <;> cases b2
            · rfl
            · have := hb1.mpr (hb2.mp rfl); cases this
            · have := hb2.mpr (hb1.mp rfl); cases this
            · rfl
          subst e
          refine ⟨rfl, _, rfl, ?_⟩
          have e0 : decide (V.bl b2 = V.bl b2) = true := decide_eq_true rfl
          rw [e0]
          refine iteF ?_
          exact ⟨rfl, _, _, rfl⟩
        · rintro σ H' ⟨rfl, w1, w2, rfl⟩
          exact ⟨S8.mono (by omega), _, _, _, _, _, _, rfl⟩
      · rintro σ H3 ⟨S3, v1, v2, v3, v4, v5, v6, rfl⟩
        exact k H3
end
end OS
namespace OS
open PySem L2
theorem all_mk {l : PySem.W.OpenLaw} {w : World} {K : PySem.W.Frag} {h : Heap} {mg : Str → Option Value} {fa f1 f2 f3 f4 f5 f6 f7 f8 f9 f10 f11 f12 f13 f14 : Addr} (X : K.In h) (G : h.Ns mainGlobals mg) (hfa : mg "law" = some (.ref fa))
    {od1 an1 od2 an2 od3 an3 od4 an4 od5 an5 od6 an6 od7 an7 od8 an8 od9 an9 od10 an10 od11 an11 od12 an12 od13 an13 od14 an14 : Option Addr} {sl1 sl2 sl3 sl4 sl5 sl6 sl7 sl8 sl9 sl10 sl11 sl12 sl13 sl14 : Array (Option Value)} {oc1 kV1 dc1 pm1 cd1 ct1 oc2 kV2 dc2 pm2 cd2 ct2 oc3 kV3 dc3 pm3 cd3 ct3 oc4 kV4 dc4 pm4 cd4 ct4 oc5 kV5 dc5 pm5 cd5 ct5 oc6 kV6 dc6 pm6 cd6 ct6 oc7 kV7 dc7 pm7 cd7 ct7 oc8 kV8 dc8 pm8 cd8 ct8 oc9 kV9 dc9 pm9 cd9 ct9 oc10 kV10 dc10 pm10 cd10 ct10 oc11 kV11 dc11 pm11 cd11 ct11 oc12 kV12 dc12 pm12 cd12 ct12 oc13 kV13 dc13 pm13 cd13 ct13 oc14 kV14 dc14 pm14 cd14 ct14 : Value} {CU fU : Addr} {odU anU : Option Addr} {slU : Array (Option Value)} {ocU kVU dcU pmU cdU ctU : Value} {nmU qU : Str} {NU : Addr} {bsU : List Value} {snU : List Str} {subU : List Value} {abU : Bool} {colU : Option Bool} {ddU : Option Addr} {k0U k1U k2U k3U k5U : Option Value} {ONE : Addr}
    (aU : PySem.W.nsIn K mainGlobals "ZeroSum" = some (some (.ref CU)))
    (aO : PySem.W.nsIn K mainGlobals "OneshardError" = some (some (.ref ONE)))
    (aG : PySem.W.nsIn K mainGlobals "gcd" = some (some (.builtin "math.gcd")))
    (a1 : PySem.W.nsIn K mainGlobals "_law_start" = some (some (.ref f1)))
    (l1 : K.lookup f1 = some ⟨oc1, od1, .func (PySem.W.fnOf "_law_start" "_law_start" (defArgs sStart) (defBody sStart) (defScope sStart) .none kV1 dc1 pm1 an1 cd1 ct1), sl1⟩)
    (c1 : PySem.W.codeIn K cd1 "_law_start" = true)
    (k1 : PySem.W.keepIn K (.ref f1) = true)
    (a2 : PySem.W.nsIn K mainGlobals "_law_draw" = some (some (.ref f2)))
    (l2 : K.lookup f2 = some ⟨oc2, od2, .func (PySem.W.fnOf "_law_draw" "_law_draw" (defArgs s_draw) (defBody s_draw) (defScope s_draw) .none kV2 dc2 pm2 an2 cd2 ct2), sl2⟩)
    (c2 : PySem.W.codeIn K cd2 "_law_draw" = true)
    (k2 : PySem.W.keepIn K (.ref f2) = true)
    (a3 : PySem.W.nsIn K mainGlobals "_law_prime" = some (some (.ref f3)))
    (l3 : K.lookup f3 = some ⟨oc3, od3, .func (PySem.W.fnOf "_law_prime" "_law_prime" (defArgs s_prime) (defBody s_prime) (defScope s_prime) .none kV3 dc3 pm3 an3 cd3 ct3), sl3⟩)
    (c3 : PySem.W.codeIn K cd3 "_law_prime" = true)
    (k3 : PySem.W.keepIn K (.ref f3) = true)
    (a4 : PySem.W.nsIn K mainGlobals "_law_sums" = some (some (.ref f4)))
    (l4 : K.lookup f4 = some ⟨oc4, od4, .func (PySem.W.fnOf "_law_sums" "_law_sums" (defArgs s_sums) (defBody s_sums) (defScope s_sums) .none kV4 dc4 pm4 an4 cd4 ct4), sl4⟩)
    (c4 : PySem.W.codeIn K cd4 "_law_sums" = true)
    (k4 : PySem.W.keepIn K (.ref f4) = true)
    (a5 : PySem.W.nsIn K mainGlobals "_law_base" = some (some (.ref f5)))
    (l5 : K.lookup f5 = some ⟨oc5, od5, .func (PySem.W.fnOf "_law_base" "_law_base" (defArgs s_base) (defBody s_base) (defScope s_base) .none kV5 dc5 pm5 an5 cd5 ct5), sl5⟩)
    (c5 : PySem.W.codeIn K cd5 "_law_base" = true)
    (k5 : PySem.W.keepIn K (.ref f5) = true)
    (a6 : PySem.W.nsIn K mainGlobals "_law_is_integer" = some (some (.ref f6)))
    (l6 : K.lookup f6 = some ⟨oc6, od6, .func (PySem.W.fnOf "_law_is_integer" "_law_is_integer" (defArgs s_is_integer) (defBody s_is_integer) (defScope s_is_integer) .none kV6 dc6 pm6 an6 cd6 ct6), sl6⟩)
    (c6 : PySem.W.codeIn K cd6 "_law_is_integer" = true)
    (k6 : PySem.W.keepIn K (.ref f6) = true)
    (a7 : PySem.W.nsIn K mainGlobals "_law_numbers" = some (some (.ref f7)))
    (l7 : K.lookup f7 = some ⟨oc7, od7, .func (PySem.W.fnOf "_law_numbers" "_law_numbers" (defArgs s_numbers) (defBody s_numbers) (defScope s_numbers) .none kV7 dc7 pm7 an7 cd7 ct7), sl7⟩)
    (c7 : PySem.W.codeIn K cd7 "_law_numbers" = true)
    (k7 : PySem.W.keepIn K (.ref f7) = true)
    (a8 : PySem.W.nsIn K mainGlobals "_law_right" = some (some (.ref f8)))
    (l8 : K.lookup f8 = some ⟨oc8, od8, .func (PySem.W.fnOf "_law_right" "_law_right" (defArgs s_right) (defBody s_right) (defScope s_right) .none kV8 dc8 pm8 an8 cd8 ct8), sl8⟩)
    (c8 : PySem.W.codeIn K cd8 "_law_right" = true)
    (k8 : PySem.W.keepIn K (.ref f8) = true)
    (a9 : PySem.W.nsIn K mainGlobals "common_divisor" = some (some (.ref f9)))
    (l9 : K.lookup f9 = some ⟨oc9, od9, .func (PySem.W.fnOf "common_divisor" "common_divisor" (defArgs s_common_divisor) (defBody s_common_divisor) (defScope s_common_divisor) .none kV9 dc9 pm9 an9 cd9 ct9), sl9⟩)
    (c9 : PySem.W.codeIn K cd9 "common_divisor" = true)
    (k9 : PySem.W.keepIn K (.ref f9) = true)
    (a10 : PySem.W.nsIn K mainGlobals "partial_sums" = some (some (.ref f10)))
    (l10 : K.lookup f10 = some ⟨oc10, od10, .func (PySem.W.fnOf "partial_sums" "partial_sums" (defArgs s_partial_sums) (defBody s_partial_sums) (defScope s_partial_sums) .none kV10 dc10 pm10 an10 cd10 ct10), sl10⟩)
    (c10 : PySem.W.codeIn K cd10 "partial_sums" = true)
    (k10 : PySem.W.keepIn K (.ref f10) = true)
    (a11 : PySem.W.nsIn K mainGlobals "_shares_divisor" = some (some (.ref f11)))
    (l11 : K.lookup f11 = some ⟨oc11, od11, .func (PySem.W.fnOf "_shares_divisor" "_shares_divisor" (defArgs s_shares_divisor) (defBody s_shares_divisor) (defScope s_shares_divisor) .none kV11 dc11 pm11 an11 cd11 ct11), sl11⟩)
    (c11 : PySem.W.codeIn K cd11 "_shares_divisor" = true)
    (k11 : PySem.W.keepIn K (.ref f11) = true)
    (a12 : PySem.W.nsIn K mainGlobals "least_base" = some (some (.ref f12)))
    (l12 : K.lookup f12 = some ⟨oc12, od12, .func (PySem.W.fnOf "least_base" "least_base" (defArgs s_least_base) (defBody s_least_base) (defScope s_least_base) .none kV12 dc12 pm12 an12 cd12 ct12), sl12⟩)
    (c12 : PySem.W.codeIn K cd12 "least_base" = true)
    (k12 : PySem.W.keepIn K (.ref f12) = true)
    (a13 : PySem.W.nsIn K mainGlobals "is_prime" = some (some (.ref f13)))
    (l13 : K.lookup f13 = some ⟨oc13, od13, .func (PySem.W.fnOf "is_prime" "is_prime" (defArgs s_is_prime) (defBody s_is_prime) (defScope s_is_prime) .none kV13 dc13 pm13 an13 cd13 ct13), sl13⟩)
    (c13 : PySem.W.codeIn K cd13 "is_prime" = true)
    (k13 : PySem.W.keepIn K (.ref f13) = true)
    (a14 : PySem.W.nsIn K mainGlobals "law" = some (some (.ref f14)))
    (l14 : K.lookup f14 = some ⟨oc14, od14, .func (PySem.W.fnOf "law" "law" (defArgs sLaw) (defBody sLaw) (defScope sLaw) .none kV14 dc14 pm14 an14 cd14 ct14), sl14⟩)
    (c14 : PySem.W.codeIn K cd14 "law" = true)
    (k14 : PySem.W.keepIn K (.ref f14) = true)
    (uL : K.lookup CU = some (excClassObj nmU qU CU NU bsU [.ref ONE, .type "ValueError", .type "Exception", .type "BaseException", .type "object"] true snU subU abU colU ddU k0U k1U k2U k3U k5U "ValueError.__new__"))
    (usa : PySem.W.findIn K (.ref CU) "__setattr__" = some (some (.builtin "object.__setattr__")))
    (uex : PySem.W.subIn K (.ref CU) (.type "BaseException") = some true)
    (uty : PySem.W.typeIn K (.ref CU) = some (.type "type"))
    (ukC : PySem.W.keepIn K (.ref CU) = true)
    (uiC : PySem.W.findIn K (.ref CU) "__init__" = some (some (.ref fU)))
    (utI : PySem.W.typeIn K (.ref fU) = some (.type "function"))
    (uno : PySem.W.findIn K (.ref CU) "numbers" = some none)
    (uga : PySem.W.findIn K (.ref CU) "__getattribute__" = some (some (.builtin "BaseException.__getattribute__")))
    (ugg : PySem.W.findIn K (.ref CU) "__getattr__" = some none)
    (uhd : PySem.W.hasDictIn K CU = true)
    (usu : PySem.W.subIn K (.ref CU) (.ref CU) = some true)
    (uha : PySem.W.findIn K (.ref CU) "__class__" = some (some (.builtin "object.__class__")))
    (uhn : PySem.W.specialIn K (.builtin "object.__class__") "__get__" = some (some (.builtin "getset_descriptor.__get__")))
    (uht : PySem.W.takesIn K (.builtin "object.__class__") = some true)
    (uhm : PySem.W.mroIn K CU (.type "object") = some true)
    (ul : K.lookup fU = some ⟨ocU, odU, .func (PySem.W.fnOf "__init__" "ZeroSum.__init__" (defArgs sZeroSum_init) (defBody sZeroSum_init) (defScope sZeroSum_init) .none kVU dcU pmU anU cdU ctU), slU⟩)
    (uc : PySem.W.codeIn K cdU "ZeroSum.__init__" = true)
    (uk : PySem.W.keepIn K (.ref fU) = true)
    (ohd : PySem.W.hasDictIn K ONE = true)
    (oty : PySem.W.typeIn K (.ref ONE) = some (.type "type"))
    (osu : PySem.W.subIn K (.ref ONE) (.ref ONE) = some true)
    (uo : PySem.W.subIn K (.ref CU) (.ref ONE) = some true)
    (z_len : PySem.W.nsIn K mainGlobals "len" = some none)
    (z_int : PySem.W.nsIn K mainGlobals "int" = some none)
    (z_abs : PySem.W.nsIn K mainGlobals "abs" = some none)
    (z_list : PySem.W.nsIn K mainGlobals "list" = some none)
    (z_range : PySem.W.nsIn K mainGlobals "range" = some none)
    (z_isinstance : PySem.W.nsIn K mainGlobals "isinstance" = some none)
    (z_bool : PySem.W.nsIn K mainGlobals "bool" = some none)
    (z_tuple : PySem.W.nsIn K mainGlobals "tuple" = some none)
    (z_sum : PySem.W.nsIn K mainGlobals "sum" = some none)
    (z_max : PySem.W.nsIn K mainGlobals "max" = some none)
    (z_min : PySem.W.nsIn K mainGlobals "min" = some none) :
    ∃ fd : FuncData, (∀ (s : Shared) (v : Value), BindsTo s fd ⟨[v], []⟩ [("_law_script", v)]) ∧ ∀ base : Heap, K.In base → base.Ns mainGlobals mg → FnOk l.prog w K mg base CX0 5 fa fd ["_law_script"] (spLaw K) := by
  have e := hfa.symm.trans (PySem.W.mg_of X G a14)
  cases e
  have F1 := fun_mk (st := sStart) l1 c1 k1
  have b1 := F1.binds (ps := ["_law_script"]) fun _ _ _ _ _ _ us hl => match us, hl with | [_], _ => rfl
  have F2 := fun_mk (st := s_draw) l2 c2 k2
  have b2 := F2.binds (ps := ["_law_state", "_law_size"]) fun _ _ _ _ _ _ us hl => match us, hl with | [_, _], _ => rfl
  have F3 := fun_mk (st := s_prime) l3 c3 k3
  have b3 := F3.binds (ps := ["_law_one"]) fun _ _ _ _ _ _ us hl => match us, hl with | [_], _ => rfl
  have F4 := fun_mk (st := s_sums) l4 c4 k4
  have b4 := F4.binds (ps := ["_law_row"]) fun _ _ _ _ _ _ us hl => match us, hl with | [_], _ => rfl
  have F5 := fun_mk (st := s_base) l5 c5 k5
  have b5 := F5.binds (ps := ["_law_sums_here"]) fun _ _ _ _ _ _ us hl => match us, hl with | [_], _ => rfl
  have F6 := fun_mk (st := s_is_integer) l6 c6 k6
  have b6 := F6.binds (ps := ["_law_actual"]) fun _ _ _ _ _ _ us hl => match us, hl with | [_], _ => rfl
  have F7 := fun_mk (st := s_numbers) l7 c7 k7
  have b7 := F7.binds (ps := ["_law_state"]) fun _ _ _ _ _ _ us hl => match us, hl with | [_], _ => rfl
  have F8 := fun_mk (st := s_right) l8 c8 k8
  have b8 := F8.binds (ps := ["_law_row"]) fun _ _ _ _ _ _ us hl => match us, hl with | [_], _ => rfl
  have F9 := fun_mk (st := s_common_divisor) l9 c9 k9
  have b9 := F9.binds (ps := ["first", "second"]) fun _ _ _ _ _ _ us hl => match us, hl with | [_, _], _ => rfl
  have F10 := fun_mk (st := s_partial_sums) l10 c10 k10
  have b10 := F10.binds (ps := ["numbers"]) fun _ _ _ _ _ _ us hl => match us, hl with | [_], _ => rfl
  have F11 := fun_mk (st := s_shares_divisor) l11 c11 k11
  have b11 := F11.binds (ps := ["base", "numbers"]) fun _ _ _ _ _ _ us hl => match us, hl with | [_, _], _ => rfl
  have F12 := fun_mk (st := s_least_base) l12 c12 k12
  have b12 := F12.binds (ps := ["numbers"]) fun _ _ _ _ _ _ us hl => match us, hl with | [_], _ => rfl
  have F13 := fun_mk (st := s_is_prime) l13 c13 k13
  have b13 := F13.binds (ps := ["number"]) fun _ _ _ _ _ _ us hl => match us, hl with | [_], _ => rfl
  have F14 := fun_mk (st := sLaw) l14 c14 k14
  have mz_len := PySem.W.mg_none_of X G z_len
  have mz_int := PySem.W.mg_none_of X G z_int
  have mz_abs := PySem.W.mg_none_of X G z_abs
  have mz_list := PySem.W.mg_none_of X G z_list
  have mz_range := PySem.W.mg_none_of X G z_range
  have mz_isinstance := PySem.W.mg_none_of X G z_isinstance
  have mz_bool := PySem.W.mg_none_of X G z_bool
  have mz_tuple := PySem.W.mg_none_of X G z_tuple
  have mz_sum := PySem.W.mg_none_of X G z_sum
  have mz_max := PySem.W.mg_none_of X G z_max
  have mz_min := PySem.W.mg_none_of X G z_min
  have G1 : Df K mg "_law_start" f1 := ⟨PySem.W.mg_of X G a1, k1⟩
  have G2 : Df K mg "_law_draw" f2 := ⟨PySem.W.mg_of X G a2, k2⟩
  have G3 : Df K mg "_law_prime" f3 := ⟨PySem.W.mg_of X G a3, k3⟩
  have G4 : Df K mg "_law_sums" f4 := ⟨PySem.W.mg_of X G a4, k4⟩
  have G5 : Df K mg "_law_base" f5 := ⟨PySem.W.mg_of X G a5, k5⟩
  have G6 : Df K mg "_law_is_integer" f6 := ⟨PySem.W.mg_of X G a6, k6⟩
  have G7 : Df K mg "_law_numbers" f7 := ⟨PySem.W.mg_of X G a7, k7⟩
  have G8 : Df K mg "_law_right" f8 := ⟨PySem.W.mg_of X G a8, k8⟩
  have G9 : Df K mg "common_divisor" f9 := ⟨PySem.W.mg_of X G a9, k9⟩
  have G10 : Df K mg "partial_sums" f10 := ⟨PySem.W.mg_of X G a10, k10⟩
  have G11 : Df K mg "_shares_divisor" f11 := ⟨PySem.W.mg_of X G a11, k11⟩
  have G12 : Df K mg "least_base" f12 := ⟨PySem.W.mg_of X G a12, k12⟩
  have G13 : Df K mg "is_prime" f13 := ⟨PySem.W.mg_of X G a13, k13⟩
  have T : BiD mg := ⟨mz_len, mz_int, mz_abs, mz_list⟩
  have TI : BiI mg := ⟨mz_isinstance, mz_int, mz_bool, mz_tuple⟩
  have mG : mg "gcd" = some (.builtin "math.gcd") := PySem.W.mg_of X G aG
  have mO : mg "OneshardError" = some (.ref ONE) := PySem.W.mg_of X G aO
  have U : ErrC K mg "ZeroSum" CU fU "numbers" := ⟨PySem.W.mg_of X G aU, ⟨⟨nmU, qU, NU, bsU, _, snU, subU, abU, colU, ddU, k0U, k1U, k2U, k3U, k5U, uL, rfl⟩, usa, uex, uty, ukC⟩, uiC, utI, uno, ⟨uga, ugg, uex, uhd⟩, PySem.W.exm_ref uex uhd uty usu⟩
  have UX : ExcC K CU := ⟨uga, ugg, uex, uhd, uha, uhn, uht, uhm⟩
  have FU := fun_mk (st := sZeroSum_init) ul uc uk
  have bU := FU.binds (ps := ["self", "numbers"]) fun _ _ _ _ _ _ us hl => match us, hl with | [_, _], _ => rfl
  have kp := kbOne (ps := ["numbers"]) (ks := ["numbers"]) F10 fun _ _ _ _ _ _ us ws h1 h2 => match us, ws, h1, h2 with | [], [_], _, _ => rfl
  have kl := kbOne (ps := ["numbers"]) (ks := ["numbers"]) F12 fun _ _ _ _ _ _ us ws h1 h2 => match us, ws, h1, h2 with | [], [_], _, _ => rfl
  have ki := kbOne (ps := ["number"]) (ks := ["number"]) F13 fun _ _ _ _ _ _ us ws h1 h2 => match us, ws, h1, h2 with | [], [_], _, _ => rfl
  refine ⟨PySem.W.fnOf "law" "law" (defArgs sLaw) (defBody sLaw) (defScope sLaw) .none kV14 dc14 pm14 an14 cd14 ct14, fun s v => .of_eq rfl, fun base _ _ => ?_⟩
  have E1 := ok_startD (P := l.prog) (w := w) (base := base) F1 T
  have E2 := ok_draw (P := l.prog) (w := w) (base := base) F2 T
  have E3 := ok_pr (P := l.prog) (w := w) (base := base) F3 mz_range mz_int
  have E4 := ok_sm (P := l.prog) (w := w) (base := base) F4 mz_range mz_len mz_sum
  have E5 := ok_bs F5 mz_int E3 G3 b3
  have E6 := ok_ii (P := l.prog) (w := w) (base := base) F6 TI
  have E7 := ok_num F7 mz_range mz_len mz_sum mz_max mz_min E2 G2 b2
  have EU := ok_zs (P := l.prog) (w := w) (base := base) FU U
  have E9 := ok_cd (P := l.prog) (w := w) (base := base) F9 mG
  have E10 := ok_ps (P := l.prog) (w := w) (mg := mg) (base := base) F10
  have E11 := ok_sh F11 E9 G9 b9
  have E12 := ok_lb F12 U mz_tuple EU bU E10 G10 b10 E11 G11 b11
  have E13 := ok_ip (P := l.prog) (w := w) (mg := mg) (base := base) F13
  have E8 := ok_rt F8 TI T U UX mO (kit_ref ohd oty osu uo) E4 G4 b4 E6 G6 b6 E5 G5 b5 E10 G10 b10 kp E12 G12 b12 kl
  exact ok_law F14 mz_range TI E1 G1 b1 E2 G2 b2 E7 G7 b7 E8 G8 b8 E13 G13 ki E3 G3 b3
theorem walk {l : PySem.W.OpenLaw} {q : Program} {loose : List Str} {XP : (Str → Option Value) → Heap → Prop} {YP : World → Heap → Prop} {d : DefRec} {K : Params → PySem.W.Frag} (hn : l.most = some 63) (hdf : d.params.defaults = [])
    (hY : ∀ (w : World) (h : Heap), YP w h → (K w.params).In h)
    (F : ∀ (w : World) (mg : Str → Option Value) (fa : Addr) (h : Heap), (K w.params).In h → h.Ns mainGlobals mg → mg d.name = some (.ref fa) →
      ∃ fd : FuncData, (∀ (s : Shared) (u : Value), BindsTo s fd ⟨[u], []⟩ [("_law_script", u)]) ∧ ∀ base : Heap, (K w.params).In base → base.Ns mainGlobals mg → FnOk l.prog w (K w.params) mg base CX0 5 fa fd ["_law_script"] (spLaw (K w.params))) :
    PySem.W.WalkO q loose XP YP l.row.toRowW d [] (fun f vs => PySem.call f vs) :=
  L2.walk_of (n := 63) (k := 5) (x := "_law_script") (CX := fun _ => CX0) (sp := fun w => spLaw (K w.params)) hn (by decide) hdf ⟨rfl, by decide, by decide⟩ hY F (fun _ _ a ns hl _ hS => ⟨a, ns, rfl, hS, hl, fun _ => rfl⟩) fun _ _ _ _ _ z => z
end OS
open PySem PySem.W PyProof.Rows
set_option maxRecDepth 100000 in
set_option maxHeartbeats 0 in
theorem PySem.Challenge.cw_oneshard_k40_sums_and_bases_holds : PySem.Challenge.rw_oneshard_k40_sums_and_bases.Holds := by
  w_on; o_law; k_head; (case hw => w_witness2)
  k_fill
  refine OS.walk (l := PySem.Challenge.rw_oneshard_k40_sums_and_bases) rfl rfl (fun w h Y => PySem.W.kIn_of Y) ?F
  case F =>
    intro w mg fa h KX G hmg
    refine' OS.all_mk KX G hmg ?aU ?aO ?aG ?a1 ?l1 ?c1 ?k1 ?a2 ?l2 ?c2 ?k2 ?a3 ?l3 ?c3 ?k3 ?a4 ?l4 ?c4 ?k4 ?a5 ?l5 ?c5 ?k5 ?a6 ?l6 ?c6 ?k6 ?a7 ?l7 ?c7 ?k7 ?a8 ?l8 ?c8 ?k8 ?a9 ?l9 ?c9 ?k9 ?a10 ?l10 ?c10 ?k10 ?a11 ?l11 ?c11 ?k11 ?a12 ?l12 ?c12 ?k12 ?a13 ?l13 ?c13 ?k13 ?a14 ?l14 ?c14 ?k14 ?uL ?usa ?uex ?uty ?ukC ?uiC ?utI ?uno ?uga ?ugg ?uhd ?usu ?uha ?uhn ?uht ?uhm ?ul ?uc ?uk ?ohd ?oty ?osu ?uo ?z_len ?z_int ?z_abs ?z_list ?z_range ?z_isinstance ?z_bool ?z_tuple ?z_sum ?z_max ?z_min
    (case aU => k_is)
    (case aO => k_is)
    (case aG => k_is)
    (case a1 => k_is)
    (case l1 => k_is)
    (case c1 => k_is)
    (case k1 => k_is)
    (case a2 => k_is)
    (case l2 => k_is)
    (case c2 => k_is)
    (case k2 => k_is)
    (case a3 => k_is)
    (case l3 => k_is)
    (case c3 => k_is)
    (case k3 => k_is)
    (case a4 => k_is)
    (case l4 => k_is)
    (case c4 => k_is)
    (case k4 => k_is)
    (case a5 => k_is)
    (case l5 => k_is)
    (case c5 => k_is)
    (case k5 => k_is)
    (case a6 => k_is)
    (case l6 => k_is)
    (case c6 => k_is)
    (case k6 => k_is)
    (case a7 => k_is)
    (case l7 => k_is)
    (case c7 => k_is)
    (case k7 => k_is)
    (case a8 => k_is)
    (case l8 => k_is)
    (case c8 => k_is)
    (case k8 => k_is)
    (case a9 => k_is)
    (case l9 => k_is)
    (case c9 => k_is)
    (case k9 => k_is)
    (case a10 => k_is)
    (case l10 => k_is)
    (case c10 => k_is)
    (case k10 => k_is)
    (case a11 => k_is)
    (case l11 => k_is)
    (case c11 => k_is)
    (case k11 => k_is)
    (case a12 => k_is)
    (case l12 => k_is)
    (case c12 => k_is)
    (case k12 => k_is)
    (case a13 => k_is)
    (case l13 => k_is)
    (case c13 => k_is)
    (case k13 => k_is)
    (case a14 => k_is)
    (case l14 => k_is)
    (case c14 => k_is)
    (case k14 => k_is)
    (case uL => k_is)
    (case usa => k_is)
    (case uex => k_is)
    (case uty => k_is)
    (case ukC => k_is)
    (case uiC => k_is)
    (case utI => k_is)
    (case uno => k_is)
    (case uga => k_is)
    (case ugg => k_is)
    (case uhd => k_is)
    (case usu => k_is)
    (case uha => k_is)
    (case uhn => k_is)
    (case uht => k_is)
    (case uhm => k_is)
    (case ul => k_is)
    (case uc => k_is)
    (case uk => k_is)
    (case ohd => k_is)
    (case oty => k_is)
    (case osu => k_is)
    (case uo => k_is)
    (case z_len => k_is)
    (case z_int => k_is)
    (case z_abs => k_is)
    (case z_list => k_is)
    (case z_range => k_is)
    (case z_isinstance => k_is)
    (case z_bool => k_is)
    (case z_tuple => k_is)
    (case z_sum => k_is)
    (case z_max => k_is)
    (case z_min => k_is)
#print axioms PySem.Challenge.cw_oneshard_k40_sums_and_bases_holds

import PyProof.Rows.All
import Wide.All
import OpenK.AllK
import Wide.FinOn
import HandS.Base
import HandS.Call
import HandS.List
import HandS.Comp
import HandS.Ends
import HandS.Dict
import HandS.Iter
import HandS.Text
import HandS.Words
import HandS.WordsList
import HandS.WordsDict
import HandS.Walk
import HandS.IsInst
import HandS.Defaults
import HandS.Codes
import HandS.More
import HandS.DictComp
import HandS.FStr
import HandS.OwnEq
import HandS.Property
import HandS.Style
import HandS.StrMore
import KE.KCallOwn
import KE.KOpsOwn
import HandS.Gcd
import HandS.Wide
import HandS.Exc
import HandS.ExcOwn
import HandS.ExcInit
import HandS.ExcField
import HandS.ExcIs
import HandS.ExcValue
import HandS.TryOnly
import HandS.WordsExc
import HandS.Star
import HandS.Zip
import HandS.HotCalls
import HandS.MakeKwOnly
import HandS.MakeKw
import HandS.TupLe
import PySem.Challenge.RW_oneshard_k42_check_split
set_option Elab.async false
set_option linter.all false
set_option maxRecDepth 100000
set_option maxHeartbeats 2000000
namespace OS
open PySem L2
def top (i : Nat) : Stmt := PySem.Challenge.pw_oneshard_k42_check_split.main.body.getD i (.Pass ⟨0, 0, 0, 0⟩)
abbrev s_common_divisor : Stmt := top 2
abbrev s_dot_product : Stmt := top 4
abbrev s_partial_sums : Stmt := top 6
abbrev s_shares_divisor : Stmt := top 7
abbrev s_check_split : Stmt := top 8
abbrev sStart : Stmt := top 10
abbrev s_draw : Stmt := top 11
abbrev s_prime : Stmt := top 12
abbrev s_sums : Stmt := top 13
abbrev s_base : Stmt := top 14
abbrev s_divisor : Stmt := top 15
abbrev s_products : Stmt := top 16
abbrev s_expected : Stmt := top 17
abbrev s_chosen_base : Stmt := top 18
abbrev sLaw : Stmt := top 19
end OS
namespace OS
open PySem L2
/-! ### the drawing state: a list of great cells, a list of cells, a count -/
theorem get_list {X : Cx} : PGet X (fun o i H Q => ∃ p xs k v, o = .ref p ∧ i = .int k ∧ SqL X.K H p xs ∧ 0 ≤ k ∧ k < 2 ^ 63 ∧ xs[k.toNat]? = some v ∧ Q v H) := by
  intro pins s σ H o i ov iv Q I ro ri h
  obtain ⟨p, xs, k, v, rfl, rfl, hS, h0, h1, hv, q⟩ := h
  cases ro
  obtain ⟨t, rfl⟩ := ri
  obtain ⟨its, r, pl, hz⟩ := Inv.list I hS
  obtain ⟨u, hu, ru⟩ := Vals.get r hv
  exact wpAny_getItem_list pl.isList h0 h1 (by rw [List.getElem?_toArray]; exact hu) ⟨v, H, I, ru, q⟩
structure BiD (mg : Str → Option Value) : Prop where
  len : mg "len" = none
  int : mg "int" = none
  abs : mg "abs" = none
  list : mg "list" = none
def Is (H : Hp) (st b : Addr) : Prop := ∃ x y z : V, H st = some (.lst [x, y, z]) ∧ (x = .ref b ∨ y = .ref b)
def Own (st : Addr) (H : Hp) (b : Addr) (o : HO) : Prop := H b = some o ∧ b ≠ st ∧ ¬ Is H st b
/-- what is neither the state nor its great cells stays -/
def Kd (st : Addr) (H H' : Hp) : Prop := ∀ b o, Own st H b o → Own st H' b o
theorem Kd.refl {st : Addr} (H : Hp) : Kd st H H := fun _ _ h => h
theorem Kd.trans {st : Addr} {H H1 H2 : Hp} (a : Kd st H H1) (b : Kd st H1 H2) : Kd st H H2 := fun x o h => b x o (a x o h)
structure Sx (H : Hp) (st bl cl : Addr) (c : Int) (bs ns : List Int) : Prop where
  s : H st = some (.lst [.ref bl, .ref cl, .int c])
  b : H bl = some (.lst (bs.map V.int))
  k : H cl = some (.lst (ns.map V.int))
  nb : st ≠ bl
  nc : st ≠ cl
  bc : bl ≠ cl
structure StD (H : Hp) (st : Addr) (m : Nat) : Prop where
  ex : ∃ (bl cl : Addr) (c : Int) (bs ns : List Int), Sx H st bl cl c bs ns ∧ 0 ≤ c ∧ c ≤ m ∧ bs.length ≤ 63 ∧ 0 < ns.length ∧ ns.length ≤ 64
theorem StD.mono {H : Hp} {st : Addr} {m n : Nat} (S : StD H st m) (h : m ≤ n) : StD H st n := by
  obtain ⟨bl, cl, c, bs, ns, x, a, b, d⟩ := S.ex
  exact ⟨bl, cl, c, bs, ns, x, a, by omega, d⟩
theorem StD.there {H : Hp} {st : Addr} {m : Nat} (S : StD H st m) : ∃ o, H st = some o := by
  obtain ⟨bl, cl, c, bs, ns, x, _⟩ := S.ex
  exact ⟨_, x.s⟩
theorem Sx.new {H : Hp} {st bl cl D : Addr} {c : Int} {bs ns : List Int} (x : Sx H st bl cl c bs ns) {o : HO} (h : H D = none) : Sx (L2.upd H D o) st bl cl c bs ns :=
  ⟨by rw [upd_ne (ne_of_none x.s h)]; exact x.s, by rw [upd_ne (ne_of_none x.b h)]; exact x.b, by rw [upd_ne (ne_of_none x.k h)]; exact x.k, x.nb, x.nc, x.bc⟩
theorem StD.new {H : Hp} {st D : Addr} {m : Nat} (S : StD H st m) {o : HO} (h : H D = none) : StD (L2.upd H D o) st m := by
  obtain ⟨bl, cl, c, bs, ns, x, a⟩ := S.ex
  exact ⟨bl, cl, c, bs, ns, x.new h, a⟩
theorem is_upd {H : Hp} {st D b : Addr} {o : HO} (h : st ≠ D) : Is (L2.upd H D o) st b → Is H st b := by
  rintro ⟨x, y, z, e, r⟩
  rw [upd_ne h] at e
  exact ⟨x, y, z, e, r⟩
theorem Kd.new {H : Hp} {st D : Addr} {o u : HO} (hs : H st = some u) (h : H D = none) : Kd st H (L2.upd H D o) := fun b v ⟨e, n, i⟩ =>
  ⟨by rw [upd_ne (ne_of_none e h)]; exact e, n, fun z => i (is_upd (ne_of_none hs h) z)⟩
/-- what is put in place of an own object: all others stay -/
theorem Sx.own {H : Hp} {st bl cl : Addr} {c : Int} {bs ns : List Int} (x : Sx H st bl cl c bs ns) : Is H st bl := ⟨_, _, _, x.s, .inl rfl⟩
theorem Sx.ownc {H : Hp} {st bl cl : Addr} {c : Int} {bs ns : List Int} (x : Sx H st bl cl c bs ns) : Is H st cl := ⟨_, _, _, x.s, .inr rfl⟩
theorem Kd.st {H : Hp} {st bl cl : Addr} {c d : Int} {bs ns : List Int} (x : Sx H st bl cl c bs ns) : Kd st H (L2.upd H st (.lst [.ref bl, .ref cl, .int d])) := fun b v ⟨e, n, i⟩ =>
  ⟨by rw [upd_ne n]; exact e, n, fun ⟨p, q, r, z, t⟩ => by
    rw [upd_same] at z
    cases z
    rcases t with t | t <;> cases t
    · exact i x.own
    · exact i x.ownc⟩
theorem Kd.bl {H : Hp} {st bl cl : Addr} {c : Int} {bs ns : List Int} {o : HO} (x : Sx H st bl cl c bs ns) : Kd st H (L2.upd H bl o) := fun b v ⟨e, n, i⟩ =>
  ⟨by rw [upd_ne (fun z => by subst z; exact i x.own)]; exact e, n, fun z => i (is_upd x.nb z)⟩
theorem Sx.st {H : Hp} {st bl cl : Addr} {c d : Int} {bs ns : List Int} (x : Sx H st bl cl c bs ns) : Sx (L2.upd H st (.lst [.ref bl, .ref cl, .int d])) st bl cl d bs ns :=
  ⟨upd_same, by rw [upd_ne x.nb.symm]; exact x.b, by rw [upd_ne x.nc.symm]; exact x.k, x.nb, x.nc, x.bc⟩
theorem Sx.bl {H : Hp} {st bl cl : Addr} {c : Int} {bs cs ns : List Int} (x : Sx H st bl cl c bs ns) : Sx (L2.upd H bl (.lst (cs.map V.int))) st bl cl c cs ns :=
  ⟨by rw [upd_ne x.nb]; exact x.s, upd_same, by rw [upd_ne x.bc.symm]; exact x.k, x.nb, x.nc, x.bc⟩
theorem Sx.next {H : Hp} {st bl cl p : Addr} {c : Int} {bs cs ns : List Int} (x : Sx H st bl cl c bs ns) (hp : H p = none) : Sx (L2.upd (L2.upd H p (.lst (cs.map V.int))) st (.lst [.ref p, .ref cl, .int c])) st p cl c cs ns :=
  ⟨upd_same, by rw [upd_ne (ne_of_none x.s hp).symm, upd_same], by rw [upd_ne x.nc.symm, upd_ne (ne_of_none x.k hp)]; exact x.k, ne_of_none x.s hp, x.nc, (ne_of_none x.k hp).symm⟩
theorem Kd.next {H : Hp} {st bl cl p : Addr} {c : Int} {bs ns : List Int} {o : HO} (x : Sx H st bl cl c bs ns) (hp : H p = none) : Kd st H (L2.upd (L2.upd H p o) st (.lst [.ref p, .ref cl, .int c])) := fun b v ⟨e, n, i⟩ =>
  ⟨by rw [upd_ne n, upd_ne (ne_of_none e hp)]; exact e, n, fun ⟨y, z, r, q, t⟩ => by
    rw [upd_same] at q
    cases q
    rcases t with t | t <;> cases t
    · rw [hp] at e
      cases e
    · exact i x.ownc⟩
theorem fmod_in {i j : Int} (h : 0 < j) : 0 ≤ i.fmod j ∧ i.fmod j < j := ⟨Int.fmod_nonneg_of_pos _ h, Int.fmod_lt_of_pos _ h⟩
theorem getD_int {ns : List Int} {k : Int} (h0 : 0 ≤ k) (h1 : k < (ns.length : Int)) : ∃ z : Int, (ns.map V.int)[k.toNat]? = some (V.int z) ∧ ns[k.toNat]? = some z := by
  have hk : k.toNat < ns.length := by omega
  refine ⟨ns[k.toNat], ?_, List.getElem?_eq_getElem hk⟩
  rw [List.getElem?_map, List.getElem?_eq_getElem hk]
  rfl
theorem atI_in {α : Type} {xs : List α} {k : Int} {v : α} (h0 : 0 ≤ k) (h : xs[k.toNat]? = some v) : atI xs k = some v := by
  have := atI_nat h
  rwa [Int.toNat_of_nonneg h0] at this
theorem ints_dp {K : PySem.W.Frag} {H : Hp} : ∀ (ns : List Int), DpAll K H (ns.map V.int) (ns.map PyData.int)
  | [] => .nil
  | n :: ns => .cons (.int n) (ints_dp ns)
theorem ints_shaped : ∀ l : List Int, PyData.canLayAll0 (l.map PyData.int) = true ∧ PyData.depthAll (l.map PyData.int) ≤ 1
  | [] => ⟨rfl, by simp [PyData.depthAll]⟩
  | j :: l => by
    obtain ⟨h1, h2⟩ := ints_shaped l
    refine ⟨?_, ?_⟩
    · rw [List.map_cons]; unfold PyData.canLayAll0; rw [h1]; rfl
    · rw [List.map_cons]; unfold PyData.depthAll; simp only [PyData.depth]; omega
theorem intsL_shaped (l : List Int) : PySem.SeqAt.shaped (.list (l.map PyData.int)) = true := by
  obtain ⟨h1, h2⟩ := ints_shaped l
  unfold SeqAt.shaped
  simp only [PyData.canLay0, PyData.depth, h1, Bool.true_and, Bool.and_true]
  first
    | exact decide_eq_true (by omega)
    | (simp; omega)
theorem eqv_nil (l : List Int) : PyData.eqv (.list (l.map PyData.int)) (.list []) = l.isEmpty := by
  cases l with
  | nil => decide +kernel
  | cons x l => simp [PyData.eqv, PyData.eqvAll]
end OS
namespace OS
open PySem L2
def spDraw : Sp := fun vs H Q _ => ∃ (st : Addr) (m : Nat) (size : Int), vs = [.ref st, .int size] ∧ StD H st m ∧ m ≤ 1000000000 ∧ 0 < size ∧ size < 18446744073709551616 ∧
  ∀ (n : Int) (H' : Hp), 0 ≤ n → n < size → StD H' st (m + 1) → Kd st H H' → Q (.int n) H'
def spStartD (K : PySem.W.Frag) : Sp := fun vs H Q _ => ∃ (a : Addr) (ns : List Int), vs = [.ref a] ∧ SqL K H a (ns.map V.int) ∧ ns.length ≤ 63 ∧
  ∀ (st : Addr) (H' : Hp), StD H' st 0 → Same H H' → H st = none → (∀ b o, H b = some o → Own st H' b o) → Q (.ref st) H'
section
variable {P : Program} {w : World} {K : PySem.W.Frag} {mg : Str → Option Value} {base : Heap}
abbrev nDraw : List Str := ["_law_state", "_law_size", "_law_digit", "_law_cell", "_law_one"]
theorem scDraw : FnScope nDraw ["_law_state", "_law_size"] (defScope s_draw) := ⟨rfl, rfl, rfl, by decide +kernel, rfl, by decide +kernel, by decide +kernel⟩
theorem ok_draw {f : Addr} {fd : FuncData} (F : Fun K "_law_draw" "_law_draw" s_draw f fd) (T : BiD mg) : FnOk P w K mg base CX0 1 f fd ["_law_state", "_law_size"] spDraw := by
  refine F.ok scDraw (fun vs H Q E h => ?_) (fun cdv A outer s H vs Q E hr h => ?_)
  · obtain ⟨st, m, size, rfl, _⟩ := h
    rfl
  · obtain ⟨st, m, size, rfl, S, hm, hl0, hl1, k⟩ := h
    obtain ⟨bl, cl, c, bs, ns, x, hc0, hc1, hb, hn0, hn⟩ := S.ex
    refine ⟨_, pss_cons (ps_augS (pv 0) pe_int get_list pe_int ip_add set_list)
      (C8.pss_cut (ps_while PassesOwn.never (PW.pt (pw_and (pt_cmpR (op_neD hr.units) (pe_ix ix_list (pv 0) pe_int fun _ _ => rfl) (pe_lst pa_nil) (nomark _)) (pw_and1 (pt_cmpR op_eq (pe_ix ix_list (pe_ix ix_list (pv 0) pe_int fun _ _ => rfl) pe_int fun _ _ => rfl) pe_int (nomark _)))))
        (pss_one (ps_asg (pe_slice sl_list (pe_ix ix_list (pv 0) pe_int fun _ _ => rfl) (po_some pe_int) po_none) (pg_sub (pv 0) pe_int set_list))))
      (pss_cons (ps_if (pt_cmpR (op_neD hr.units) (pe_ix ix_list (pv 0) pe_int fun _ _ => rfl) (pe_lst pa_nil) (nomark _))
        (pss_cons (ps_set (i := 2) scDraw.nd rfl (Or.inl rfl) (pe_op op_modN (pe_callTy call_int1 (by rfl) T.int (by decide +kernel) (pa_cons (pe_ix ix_list (pe_ix ix_list (pv 0) pe_int fun _ _ => rfl) pe_int fun _ _ => rfl) pa_nil)) (pv 1)))
        (pss_cons (ps_asg (pe_op op_fdivW (pe_ix ix_list (pe_ix ix_list (pv 0) pe_int fun _ _ => rfl) pe_int fun _ _ => rfl) (pv 1)) (pg_sub (pe_ix ix_list (pv 0) pe_int fun _ _ => rfl) pe_int set_list))
        (pss_one (ps_ret (pv 2))))) pss_nil)
      (pss_cons (ps_set (i := 3) scDraw.nd rfl (Or.inl rfl) (pe_op op_modN (pe_callTy call_int1 (by rfl) T.int (by decide +kernel) (pa_cons (pe_ix ix_list (pe_ix ix_list (pv 0) pe_int fun _ _ => rfl) (pe_op op_modN (pe_callTy call_int1 (by rfl) T.int (by decide +kernel) (pa_cons (pe_ix ix_list (pv 0) pe_int fun _ _ => rfl) pa_nil)) (pe_callB call_len_seq (by rfl) T.len PySem.boot_len (pa_cons (pe_ix ix_list (pv 0) pe_int fun _ _ => rfl) pa_nil))) fun _ _ => rfl) pa_nil)) pe_int))
      (pss_cons (ps_set (i := 4) scDraw.nd rfl (Or.inl rfl) (pe_op op_modN (pe_callTy call_int1 (by rfl) T.int (by decide +kernel) (pa_cons (pe_op op_pow (pe_op op_add (pe_op op_add (pe_op op_mul (pv 3) pe_int) (pe_op op_mul (pe_ix ix_list (pv 0) pe_int fun _ _ => rfl) pe_int)) pe_int) pe_int) pa_nil)) pe_int))
      (pss_one (ps_ret (pe_op op_modN (pe_op op_modN (pe_callTy call_int1 (by rfl) T.int (by decide +kernel) (pa_cons (pe_op op_pow (pe_op op_add (pe_op op_add (pe_op op_mul (pv 4) pe_int) (pe_op op_mul (pe_ix ix_list (pv 0) pe_int fun _ _ => rfl) pe_int)) pe_int) pe_int) pa_nil)) pe_int) (pv 1)))))))), ?_⟩
    -- state[2] += 1
    refine ⟨_, rfl, st, _, 2, V.int c, rfl, rfl, SqL.of x.s, by decide, by decide, rfl, ?_⟩
    refine ⟨_, _, rfl, rfl, ?_⟩
    refine ⟨st, _, _, 2, rfl, rfl, x.s, rfl, ?_⟩
    have x1 : Sx (L2.upd H st (.lst [.ref bl, .ref cl, .int (c + 1)])) st bl cl (c + 1) bs ns := x.st
    -- the zeros ahead
    let GG : List Int → Hp → Prop := fun bs H' => ∃ bl : Addr, Sx H' st bl cl (c + 1) bs ns ∧ bs.length ≤ 63 ∧ Kd st H H'
    have σ0 : ∀ p : Prop, p → p := fun _ h => h
    refine ⟨fun σ H' => ∃ bs', σ = [some (.ref st), some (.int size), none, none, none] ∧ GG bs' H', ?_, ?_⟩
    · refine ⟨fun n σ H' => ∃ bs', bs'.length = n ∧ σ = [some (.ref st), some (.int size), none, none, none] ∧ GG bs' H', ⟨bs.length, bs, rfl, rfl, bl, x1, hb, Kd.st x⟩, ?_⟩
      rintro n σ H1 ⟨bs1, rfl, rfl, bl1, y, hb1, kd⟩
      refine ⟨_, rfl, st, _, _, V.ref bl1, rfl, rfl, SqL.of y.s, rfl, ?_⟩
      refine ⟨by show 0 ≤ sizeLine; decide, fun l hl => ?_⟩
      have y2 := y.new (o := .lst []) hl
      refine ⟨_, _, .lst (SqL.of y2.b) (ints_dp bs1), .lst (SqL.of upd_same) .nil, intsL_shaped bs1, by decide +kernel, _, rfl, ?_⟩
      rw [eqv_nil]
      have kd2 := kd.trans (Kd.new (o := .lst []) y.s hl)
      cases bs1 with
      | nil =>
        refine iteF ?_
        exact ⟨[], rfl, bl1, y2, hb1, kd2⟩
      | cons b0 br =>
        refine iteT ?_
        refine ⟨_, rfl, st, _, _, V.ref bl1, rfl, rfl, SqL.of y2.s, rfl, bl1, _, _, V.int b0, rfl, rfl, SqL.of y2.b, atI_in (by decide) rfl, ?_⟩
        refine ⟨rfl, _, rfl, ?_⟩
        refine ite2 (fun _ => ?_) (fun _ => ?_)
        · refine ⟨fun σ' H' => ∃ bs', bs'.length = br.length ∧ σ' = [some (.ref st), some (.int size), none, none, none] ∧ GG bs' H', ?_, ?_⟩
          · rintro σ' H' ⟨bs', e, r⟩
            exact ⟨br.length, by simp, bs', e, r⟩
          · refine ⟨_, rfl, st, _, _, V.ref bl1, rfl, rfl, SqL.of y2.s, rfl, ?_⟩
            refine ⟨_, rfl, bl1, _, rfl, SqL.of y2.b, fun p hp => ?_⟩
            have ecut : cutV ((b0 :: br).map V.int) (some 1) none = br.map V.int := by
              have e1 : HT.sIx ((b0 :: br).map V.int).length 0 (some 1) = 1 := by
                unfold HT.sIx
                simp
              unfold cutV
              rw [e1]
              show List.take ((((b0 :: br).map V.int).length) - 1) (List.drop 1 ((b0 :: br).map V.int)) = _
              simp
              exact List.take_of_length_le (by simp)
            rw [ecut]
            have y3 := y2.next (cs := br) hp
            refine ⟨_, rfl, st, _, _, 0, rfl, rfl, by rw [upd_ne (ne_of_none y2.s hp)]; exact y2.s, rfl, ?_⟩
            exact ⟨br, rfl, rfl, p, y3, by simp at hb1; omega, kd2.trans (Kd.next y2 hp)⟩
        · exact ⟨b0 :: br, rfl, bl1, y2, hb1, kd2⟩
    rintro σ1 H1 ⟨bs1, rfl, bl1, y, hb1, kd⟩
    refine ⟨_, rfl, st, _, _, V.ref bl1, rfl, rfl, SqL.of y.s, rfl, ?_⟩
    refine ⟨by show 0 ≤ sizeLine; decide, fun l hl => ?_⟩
    have y2 := y.new (o := .lst []) hl
    have kd2 := kd.trans (Kd.new (o := .lst []) y.s hl)
    refine ⟨_, _, .lst (SqL.of y2.b) (ints_dp bs1), .lst (SqL.of upd_same) .nil, intsL_shaped bs1, by decide +kernel, _, rfl, ?_⟩
    rw [eqv_nil]
    cases bs1 with
    | cons b0 br =>
      refine iteT ?_
      refine ⟨_, rfl, st, _, _, V.ref bl1, rfl, rfl, SqL.of y2.s, rfl, bl1, _, _, V.int b0, rfl, rfl, SqL.of y2.b, atI_in (by decide) rfl, ?_⟩
      refine .inl ⟨_, rfl, ?_⟩
      refine ⟨_, rfl, _, _, rfl, rfl, (by show size ≠ 0; omega), ?_⟩
      obtain ⟨k0, k1⟩ := fmod_in (i := b0) hl0
      refine ⟨_, rfl, st, _, _, V.ref bl1, rfl, rfl, SqL.of y2.s, rfl, bl1, _, _, V.int b0, rfl, rfl, SqL.of y2.b, atI_in (by decide) rfl, ?_⟩
      refine ⟨_, rfl, _, _, rfl, rfl, wide_div (b := 64) hl0 (by omega) (by decide) (by decide), ?_⟩
      refine ⟨_, rfl, st, _, _, V.ref bl1, rfl, rfl, SqL.of y2.s, rfl, ?_⟩
      refine ⟨bl1, _, _, 0, rfl, rfl, y2.b, by show ixN _ 0 = some 0; unfold ixN; rw [if_pos (by decide), if_pos (by simp)]; rfl, ?_⟩
      refine ⟨_, rfl, ?_⟩
      have y3 := y2.bl (cs := b0 / size :: br)
      exact k _ _ k0 k1 ⟨bl1, cl, c + 1, _, ns, y3, by omega, by push_cast; omega, by simp at hb1 ⊢; omega, hn0, hn⟩ (kd2.trans (Kd.bl y2))
    | nil =>
      refine iteF ?_
      have r1 : ∀ i : Int, 0 ≤ i.fmod 2147483647 ∧ i.fmod 2147483647 < 2147483647 := fun i => fmod_in (by decide)
      refine ⟨_, rfl, st, _, _, V.ref cl, rfl, rfl, SqL.of y2.s, rfl, ?_⟩
      refine ⟨_, rfl, st, _, _, V.int (c + 1), rfl, rfl, SqL.of y2.s, rfl, .inl ⟨_, rfl, ?_⟩⟩
      refine ⟨_, rfl, st, _, _, V.ref cl, rfl, rfl, SqL.of y2.s, rfl, ?_⟩
      refine ⟨cl, _, rfl, .inl (SqL.of y2.k), ?_⟩
      have hL : (((ns.map V.int).length : Nat) : Int) = (ns.length : Int) := by rw [List.length_map]
      rw [hL]
      refine ⟨_, _, rfl, rfl, (by show (ns.length : Int) ≠ 0; omega), ?_⟩
      obtain ⟨i0, i1⟩ := fmod_in (i := c + 1) (j := (ns.length : Int)) (by omega)
      obtain ⟨at_, hat⟩ : ∃ a, a = (c + 1).fmod (ns.length : Int) := ⟨_, rfl⟩
      rw [← hat] at i0 i1
      obtain ⟨z, hz1, hz2⟩ := getD_int (ns := ns) (k := at_) i0 i1
      refine ⟨cl, _, at_, V.int z, rfl, (by show V.int _ = V.int _; rw [hat]), SqL.of y2.k, atI_in i0 hz1, ?_⟩
      refine .inl ⟨_, rfl, ?_⟩
      refine ⟨_, _, rfl, rfl, (by show (_ : Int) ≠ 0; decide), ?_⟩
      obtain ⟨y1, hy1⟩ : ∃ y, y = z.fmod 2147483647 := ⟨_, rfl⟩
      obtain ⟨q1, q2⟩ := r1 z
      rw [← hy1] at q1 q2
      rw [show (fun i j => V.int (Int.fmod i j)) z 2147483647 = V.int y1 by rw [hy1]]
      refine ⟨_, rfl, _, _, rfl, rfl, .inl ⟨by omega, by omega⟩, ?_⟩
      refine ⟨_, rfl, st, _, _, V.int (c + 1), rfl, rfl, SqL.of y2.s, rfl, _, _, rfl, rfl, .inl ⟨by omega, by omega⟩, ?_⟩
      refine ⟨_, _, rfl, rfl, _, _, rfl, rfl, ?_⟩
      refine ⟨_, _, rfl, rfl, ⟨by decide, by decide, ?_⟩, .inl ⟨_, rfl, ?_⟩⟩
      · show (y1 * 48271 + (c + 1) * 69621 + 7).natAbs < 2 ^ 64
        omega
      refine ⟨_, _, rfl, rfl, (by show (_ : Int) ≠ 0; decide), ?_⟩
      obtain ⟨q3, q4⟩ := r1 ((y1 * 48271 + (c + 1) * 69621 + 7) ^ (5 : Int).toNat)
      obtain ⟨y3, hy3⟩ : ∃ y, y = ((y1 * 48271 + (c + 1) * 69621 + 7) ^ (5 : Int).toNat).fmod 2147483647 := ⟨_, rfl⟩
      rw [← hy3] at q3 q4
      rw [show (fun i j => V.int (Int.fmod i j)) ((y1 * 48271 + (c + 1) * 69621 + 7) ^ (5 : Int).toNat) 2147483647 = V.int y3 by rw [hy3]]
      refine ⟨_, rfl, _, _, rfl, rfl, .inl ⟨by omega, by omega⟩, ?_⟩
      refine ⟨_, rfl, st, _, _, V.int (c + 1), rfl, rfl, SqL.of y2.s, rfl, _, _, rfl, rfl, .inl ⟨by omega, by omega⟩, ?_⟩
      refine ⟨_, _, rfl, rfl, _, _, rfl, rfl, ?_⟩
      refine ⟨_, _, rfl, rfl, ⟨by decide, by decide, ?_⟩, .inl ⟨_, rfl, ?_⟩⟩
      · show (y3 * 16807 + (c + 1) * 40692 + 13).natAbs < 2 ^ 64
        omega
      refine ⟨_, _, rfl, rfl, (by show (_ : Int) ≠ 0; decide), ?_⟩
      refine ⟨_, rfl, _, _, rfl, rfl, (by show size ≠ 0; omega), ?_⟩
      obtain ⟨k0, k1⟩ := fmod_in (i := ((y3 * 16807 + (c + 1) * 40692 + 13) ^ (5 : Int).toNat).fmod 2147483629) hl0
      exact k _ _ k0 k1 ⟨bl1, cl, c + 1, _, ns, y2, by omega, by push_cast; omega, hb1, hn0, hn⟩ kd2
abbrev nStartD : List Str := ["_law_script", "_law_cell"]
theorem scStartD : FnScope nStartD ["_law_script"] (defScope sStart) := ⟨rfl, rfl, rfl, by decide +kernel, rfl, by decide +kernel, by decide +kernel⟩
theorem ok_startD {f : Addr} {fd : FuncData} (F : Fun K "_law_start" "_law_start" sStart f fd) (T : BiD mg) : FnOk P w K mg base CX0 1 f fd ["_law_script"] (spStartD K) := by
  refine F.ok scStartD (fun vs H Q E h => ?_) (fun cdv A outer s H vs Q E hr h => ?_)
  · obtain ⟨a, ns, rfl, _⟩ := h
    rfl
  · obtain ⟨a, ns, rfl, hS, hn, k⟩ := h
    refine ⟨_, pss_one (ps_ret (pe_lst (pa_cons (pe_lc (own := [("_law_cell", 1)]) (g := gName 1) rfl scStartD.nd (pi_list (pv 0)) (blkOk_by (own := [("_law_cell", 1)]) (N := nStartD) (sc := defScope sStart) (by decide +kernel))
        (fun _ _ _ _ _ => pg_name (i := 1) scStartD.nd rfl (Or.inl rfl)) (fun _ _ _ _ _ => pts_one (pt_cmpR op_ge (pe_callB call_abs (by rfl) T.abs (by decide +kernel) (pa_cons (pv 1) pa_nil)) (pe_op op_pow pe_int pe_int) (nomark _)))
        (fun _ _ _ _ _ => pe_callB call_abs (by rfl) T.abs (by decide +kernel) (pa_cons (pv 1) pa_nil)))
      (pa_cons (pe_op op_cat (pe_callTy call_list_of (by rfl) T.list (by decide +kernel) (pa_cons (pv 0) pa_nil)) (pe_lst (pa_cons pe_int pa_nil))) (pa_cons pe_int pa_nil))))), ?_⟩
    refine ⟨_, rfl, a, rfl, ⟨_, hS⟩, fun D hD => lc_list (K := K) (a := a) (xs := ns.map V.int) (fun i H' => Same H H' ∧ ∃ bs : List Int, H' D = some (.lst (bs.map V.int)) ∧ bs.length ≤ i) ⟨?_, [], ?_, ?_⟩ (fun i H' _ h => h.1.seq hS) ?_ ?_⟩
    · intro b o e
      rw [upd_ne (ne_of_none e hD)]
      exact e
    · rw [upd_same]
      rfl
    · exact Nat.le_refl _
    · intro i x H' hi ⟨s1, bs, s2, s3⟩
      obtain ⟨z, hz, rfl⟩ : ∃ z, ns[i]? = some z ∧ x = V.int z := by
        rw [List.getElem?_map] at hi
        cases e : ns[i]? with
        | none => rw [e] at hi; cases hi
        | some z => rw [e] at hi; exact ⟨z, rfl, (Option.some.inj hi).symm⟩
      have hil : i < ns.length := (List.getElem?_eq_some_iff.mp hz).1
      refine ⟨rfl, ?_⟩
      refine ⟨_, rfl, _, rfl, _, _, rfl, rfl, ⟨by decide, by decide, by decide⟩, _, _, rfl, rfl, _, rfl, ?_⟩
      refine ite2 (fun _ => ?_) (fun _ => ?_)
      · refine ⟨_, rfl, _, rfl, ?_⟩
        refine ⟨_, s2, ?_, ?_, bs ++ [if z < 0 then -z else z], ?_, ?_⟩
        · rw [List.length_map]
          exact small1000 (by omega)
        · intro b o e
          rw [upd_ne (ne_of_none e hD)]
          exact s1 b o e
        · rw [upd_same, List.map_append]
          rfl
        · rw [List.length_append]
          show bs.length + 1 ≤ i + 1
          omega
      · exact ⟨s1, bs, s2, by omega⟩
    · intro H' ⟨s1, bs, s2, s3⟩
      rw [List.length_map] at s3
      refine ⟨_, rfl, a, _, rfl, .inl (s1.seq hS), fun l hl => ?_⟩
      refine ⟨by show 1 ≤ sizeLine; decide, fun l2 hl2 => ?_⟩
      have e1 : (L2.upd (L2.upd H' l (.lst (ns.map V.int))) l2 (.lst [V.int 5])) l = some (.lst (ns.map V.int)) := by
        rw [upd_ne (ne_of_none (o := .lst (ns.map V.int)) upd_same hl2), upd_same]
      refine ⟨l, l2, _, _, rfl, rfl, e1, upd_same, ?_, fun p hp => ?_⟩
      · rw [List.length_map]
        show ns.length + 1 ≤ sizeLine
        exact Nat.le_of_lt (small1000 (by omega))
      refine ⟨by show 3 ≤ sizeLine; decide, fun st hst => ?_⟩
      have hlt : ∀ b o, H' b = some o → b ≠ l ∧ b ≠ l2 ∧ b ≠ p ∧ b ≠ st := by
        intro b o e
        have n1 := ne_of_none e hl
        have e2 : (L2.upd H' l (.lst (ns.map V.int))) b = some o := by rw [upd_ne n1]; exact e
        have n2 := ne_of_none e2 hl2
        have e3 : (L2.upd (L2.upd H' l (.lst (ns.map V.int))) l2 (.lst [V.int 5])) b = some o := by rw [upd_ne n2]; exact e2
        have n3 := ne_of_none e3 hp
        have e4 : (L2.upd (L2.upd (L2.upd H' l (.lst (ns.map V.int))) l2 (.lst [V.int 5])) p (.lst (ns.map V.int ++ [V.int 5]))) b = some o := by rw [upd_ne n3]; exact e3
        exact ⟨n1, n2, n3, ne_of_none e4 hst⟩
      have hps : p ≠ st := ne_of_none upd_same hst
      obtain ⟨d1, d2, d3, d4⟩ := hlt D _ s2
      have x : Sx (L2.upd (L2.upd (L2.upd (L2.upd H' l (.lst (ns.map V.int))) l2 (.lst [V.int 5])) p (.lst (ns.map V.int ++ [V.int 5]))) st (.lst [.ref D, .ref p, .int 0])) st D p 0 bs (ns ++ [5]) := by
        refine ⟨upd_same, ?_, ?_, d4.symm, hps.symm, d3⟩
        · rw [upd_ne d4, upd_ne d3, upd_ne d2, upd_ne d1]
          exact s2
        · rw [upd_ne hps, upd_same, List.map_append]
          rfl
      have keep : ∀ b o, H b = some o → b ≠ D ∧ (L2.upd (L2.upd (L2.upd (L2.upd H' l (.lst (ns.map V.int))) l2 (.lst [V.int 5])) p (.lst (ns.map V.int ++ [V.int 5]))) st (.lst [.ref D, .ref p, .int 0])) b = some o ∧ b ≠ st := by
        intro b o e
        obtain ⟨n1, n2, n3, n4⟩ := hlt b o (s1 b o e)
        refine ⟨ne_of_none e hD, ?_, n4⟩
        rw [upd_ne n4, upd_ne n3, upd_ne n2, upd_ne n1]
        exact s1 b o e
      have hstn : H st = none := by
        cases e : H st with
        | none => rfl
        | some o => exact absurd rfl (keep st o e).2.2
      refine k st _ ⟨D, p, 0, bs, ns ++ [5], x, by decide, by decide, by omega, by simp, by simp; omega⟩ (fun b o e => (keep b o e).2.1) hstn (fun b o e => ⟨(keep b o e).2.1, (keep b o e).2.2, fun ⟨y, z, r, e2, t⟩ => ?_⟩)
      rw [x.s] at e2
      cases e2
      rcases t with t | t <;> cases t
      · exact (keep _ o e).1 rfl
      · exact (hlt _ o (s1 _ o e)).2.2.1 rfl
end
end OS
namespace OS
open PySem PySem.Spec PySem.W PySem.Calls PyProof.Rows PySem.HandSPX
open Builtin Builtin.ObjectAttr
section
variable {M : Model} {A : Around} {E : Value → Shared → Prop} {h : Heap} {g : Array GenState} {d : Drawn} {t : Nat} {os : OsState}
variable {nm q : Str} {C N : Addr} {bs bm bmB : List Value} {hdct : Bool} {sn : List Str} {sub : List Value} {ab : Bool} {col : Option Bool} {dd : Option Addr} {k0 k1 k2 k3 k5 : Option Value} {B newId initId : String}
theorem check_new_kw (F : ExcBaseFacts B newId initId bmB) (hT : ∀ X : String, bm.contains (.type X) = bmB.contains (.type X)) {rest : List Value} {kw : List (Str × Value)} {Q : Unit → Shared → Prop}
    (hC : h.get? C = some (excClassObj nm q C N bs bm hdct sn sub ab col dd k0 k1 k2 k3 k5 newId)) (hq : Q () ⟨h, g, d, t, os⟩) : wpAny M A (checkBuiltinCall newId ⟨.ref C :: rest, kw⟩) Q E ⟨h, g, d, t, os⟩ := by
  have hcont : (Value.ref C :: bm).contains (.type B) = true := by rw [List.contains_cons, hT, F.hasB, Bool.or_true]
  have hstar := F.noStar
  simp only [checkBuiltinCall, F.newKind, F.newSplit, F.newRow]
  repeat (first | refine wpAny_loadPart_at hC ?_ | (refine wpAny_isSubtype_exc hC ?_; rw [hcont]) | refine wpAny_staticBase_exc hC ?_ | refine wpAny_madeBy_exc hC ?_ | simp only [bne_self_eq_false, Bool.false_eq_true, if_false] | wp_step)
  exact hq
theorem check_type_kw {rest : List Value} {kw : List (Str × Value)} {Q : Unit → Shared → Prop} (hC : h.get? C = some (excClassObj nm q C N bs bm hdct sn sub ab col dd k0 k1 k2 k3 k5 newId))
    (hq : Q () ⟨h, g, d, t, os⟩) : wpAny M A (checkBuiltinCall "type.__call__" ⟨.ref C :: rest, kw⟩) Q E ⟨h, g, d, t, os⟩ := by
  have f3 := tc_sub
  have hT : (⟨h, g, d, t, os⟩ : Shared).TypeIs (.ref C) "type" := ⟨_, hC, rfl⟩
  simp only [checkBuiltinCall, tc_kind, tc_split]
  repeat (any_goals (first | assumption | with_reducible refine wpAny_loadPart_at hC ?_ | with_reducible refine wpAny_onRaise ?_ | with_reducible refine wpAny_map ?_ | wp_step))
end
section
variable {prog : Program} {w : World} {A : Around} {E : Value → Shared → Prop} {R : Result → Shared → Prop} {h : Heap} {g : Array GenState} {d : Drawn} {t : Nat} {os : OsState}
variable {nm q : Str} {C N : Addr} {bs bm bmB : List Value} {hdct : Bool} {sn : List Str} {sub : List Value} {ab : Bool} {col : Option Bool} {dd : Option Addr} {k0 k1 k2 k3 k5 : Option Value} {B newId initId : String}
theorem new_kw (F : ExcBaseFacts B newId initId bmB) (hT : ∀ X : String, bm.contains (.type X) = bmB.contains (.type X)) {rest : List Value} {kw : List (Str × Value)}
    (hC : h.get? C = some (excClassObj nm q C N bs bm hdct sn sub ab col dd k0 k1 k2 k3 k5 newId))
    (hq : R (.ok (.ret (.ref (h.objs.size + 1)))) ⟨(h.push { cls := .type "tuple", data := .seq rest.toArray }).push
      { cls := .ref C, data := .fields #[.ref h.objs.size, .none, .none, .none, .bool false, .none] }, g, d, t, os⟩) (hrest : rest.length ≤ sizeLine) :
    codeAny (model prog w) A (.builtin newId ⟨.ref C :: rest, kw⟩) R ⟨h, g, d, t, os⟩ := by
  have hends := F.ends
  have hcB : (Value.ref C :: bm).contains (.type B) = true := by rw [List.contains_cons, hT, F.hasB, Bool.or_true]
  have hcA : (Value.ref C :: bm).contains (.type "AttributeError") = false := by rw [List.contains_cons, hT, F.noAttr]; rfl
  have hcN : (Value.ref C :: bm).contains (.type "NameError") = false := by rw [List.contains_cons, hT, F.noName]; rfl
  refine codeAny_builtinAt F.entry ?_
  unfold Builtin.«BaseException.__new__»
  refine PyProof.Rows.wpAt_bind ?_
  show PyProof.Rows.wpAt _ _ _ (stack >>= _) _ _ _
  refine PyProof.Rows.wpAt_bind (PyProof.Rows.wpAt_stack fun p below => wpAt_of_wpAny ?_)
  wp_walk
  refine wpAt_of_wpAny ?_
  rw [F.owner]
  repeat (first | with_reducible refine wpAny_madeHere_exc F.canon hC ?_ | with_reducible refine wpAny_loadPart_at hC ?_ | (with_reducible refine wpAny_isSubtype_exc hC ?_; first | rw [hcB] | rw [hcA] | rw [hcN]) | wp_step)
  show R _ _
  rw [Heap.size_push]
  exact hq
theorem type_call_kw (F : ExcBaseFacts B newId initId bmB) (hT : ∀ X : String, bm.contains (.type X) = bmB.contains (.type X)) {rest : List Value} {kw : List (Str × Value)} {fI : Addr} {Q : Fin → Shared → Prop}
    (hC : h.get? C = some (excClassObj nm q C N bs bm hdct sn sub ab col dd k0 k1 k2 k3 k5 newId))
    (hi : W.Looks (model prog w) h (typeLookup (.ref C) "__init__") (some (.ref fI))) (hb : ∀ self, W.Looks (model prog w) h (bindSpecial (.ref fI) self) (.ref fI, [self])) (hrest : rest.length ≤ sizeLine)
    (hq : codeAny (model prog w) A (.call (.ref fI) ⟨.ref (h.objs.size + 1) :: rest, kw⟩)
      (fun r s' => match r with | .ok (.ret v) => v = .none ∧ Q (.done (.ret (.ref (h.objs.size + 1)))) s' | .ok _ => False | .error e => E e s')
      ⟨(h.push (W.kdv_tup rest)).push (excO C h.objs.size), g, d, t, os⟩) :
    wpAny (model prog w) A (Builtin.«type.__call__» ⟨.ref C :: rest, kw⟩) Q E ⟨h, g, d, t, os⟩ := by
  repeat (first | with_reducible refine wpAny_loadPart_at hC ?_ | with_reducible refine wpAny_madeBy_exc hC ?_ | wp_step)
  refine codeAny_call_builtin_code (Code.quiet_builtin _ F.quiet) (check_new_kw F hT hC ?_)
  refine new_kw F hT hC ?_ hrest
  show wpAny _ _ _ _ _ _
  have k : ∀ b o, h.get? b = some o → ((h.push (W.kdv_tup rest)).push (excO C h.objs.size)).get? b = some o := fun b o e => Heap.get?_push_of_some _ (Heap.get?_push_of_some _ e)
  have hC₁ := k _ _ hC
  have hget : ((h.push (W.kdv_tup rest)).push (excO C h.objs.size)).get? (h.objs.size + 1) = some (excO C h.objs.size) := by heap_get
  have hcC : (Value.ref C :: bm).contains (.ref C) = true := by simp
  have i1 := hi.keeps k
  have b1 := (hb (.ref (h.objs.size + 1))).keeps k
  unfold isInstance
  repeat (first | with_reducible refine wpAny_loadPart_at hget ?_ | (with_reducible refine wpAny_isSubtype_exc hC₁ ?_; rw [hcC]) | wp_step)
  show wpAny _ _ (typeLookup (.ref C) _) _ _ _
  refine i1.at ?_
  refine wpAny_holding (wpAny_bind (b1.at ?_))
  refine wpAny_bind (wpAny_call (codeAny_mono hq fun r s' z => ?_))
  rcases r with e | (v | _ | _ | _) <;> first | exact z | exact z.elim | skip
  obtain ⟨rfl, z⟩ := z
  first
    | exact wpAny_pure (wpAny_pure z)
    | (wp_walk; exact z)
theorem call_own_kw (F : ExcBaseFacts B newId initId bmB) (hT : ∀ X : String, bm.contains (.type X) = bmB.contains (.type X)) {rest : List Value} {kw : List (Str × Value)} {fI : Addr}
    (hC : h.get? C = some (excClassObj nm q C N bs bm hdct sn sub ab col dd k0 k1 k2 k3 k5 newId))
    (hi : W.Looks (model prog w) h (typeLookup (.ref C) "__init__") (some (.ref fI))) (hb : ∀ self, W.Looks (model prog w) h (bindSpecial (.ref fI) self) (.ref fI, [self])) (hrest : rest.length ≤ sizeLine)
    (hq : codeAny (model prog w) (A.under (.builtin "type.__call__" ⟨.ref C :: rest, kw⟩)) (.call (.ref fI) ⟨.ref (h.objs.size + 1) :: rest, kw⟩) (W.InitBack (h.objs.size + 1) R)
      ⟨(h.push (W.kdv_tup rest)).push (excO C h.objs.size), g, d, t, os⟩) :
    codeAny (model prog w) A (.call (.ref C) ⟨rest, kw⟩) R ⟨h, g, d, t, os⟩ := by
  have f1 := tc_lookup
  have f2 := tc_bind (.ref C)
  have hTy : (⟨h, g, d, t, os⟩ : Shared).TypeIs (.ref C) "type" := ⟨_, hC, rfl⟩
  refine codeAny_of_tree ?_
  show wpAny _ _ (callAny (.ref C) _) _ _ _
  repeat (any_goals (first | assumption | with_reducible refine wpAny_loadPart_at hC ?_ | wp_step))
  refine ⟨rfl, ?_⟩
  refine codeAny_call_builtin_at (Code.quiet_builtin _ (by decide +kernel)) entry_typeCall (check_type_kw hC (type_call_kw F hT hC hi hb hrest ?_))
  refine codeAny_mono hq fun r s' z => ?_
  rcases r with e | (v | _ | _ | _) <;> exact z
end
end OS
namespace OS
open PySem PySem.Spec PySem.Calls PyProof.Rows PySem.W
section
variable {prog : Program} {w : World} {A : Around} {E : Value → Shared → Prop} {s : Shared} {K : Frag} {x D : Addr} {ox od : Obj}
/-- e.__class__ of an error that has its own dict -/
theorem class_of_err {Q : Option Value → Shared → Prop} (hga : findIn K (.ref D) "__getattribute__" = some (some (.builtin "BaseException.__getattribute__"))) (hgt : findIn K (.ref D) "__getattr__" = some none) (hsub : subIn K (.ref D) (.type "BaseException") = some true)
    (hdct : hasDictIn K D = true) (ha : findIn K (.ref D) "__class__" = some (some (.builtin "object.__class__")))
    (hn : specialIn K (.builtin "object.__class__") "__get__" = some (some (.builtin "getset_descriptor.__get__"))) (htk : takesIn K (.builtin "object.__class__") = some true) (hm : mroIn K D (.type "object") = some true)
    (X : K.In s.heap) (I : InstAt s.heap x ox D (some od)) (h : Q (some (.ref D)) { s with toks := s.toks + 1 }) : wpAny (model prog w) A (getAttr? (.ref x) "__class__") Q E s := by
  have hf : findObj K D (some od) "__class__" = some (.bind (.builtin "getset_descriptor.__get__") (.builtin "object.__class__")) := findObj_data (by obtain ⟨cd, hc, _⟩ := any_some hdct; rw [hc]; rfl) ha hn htk
  obtain ⟨hp, g, d, t, os⟩ := s
  have L0 := I.type (M := model prog w)
  have L1 := looks_findIn (M := model prog w) X hga
  have L2 := looks_findIn (M := model prog w) X hgt
  have L3 := looks_find (M := model prog w) X I hf
  have sub : Looks (model prog w) hp (isInstance (.ref x) (.type "BaseException")) true := L0.andThen (looks_subIn X hsub)
  have hx0 : (false && onTheHeap (Value.builtin "BaseException.__getattribute__")) = false := rfl
  have hx2 : (Value.builtin "BaseException.__getattribute__" == Value.builtin "object.__getattribute__") = false := by decide +kernel
  have hx1 : (onTheHeap (Value.ref D) && Value.builtin "BaseException.__getattribute__" == Value.builtin "object.__getattribute__") = false := by rw [hx2]; rfl
  unfold getAttr? getAttrBy? getAttrBy
  refine wpAny_bind (wpAny_mkText (wpAny_bind (wpAny_attempt (wpAny_holding (wpAny_bind (L0.at (wpAny_bind (L1.at ?_))))))))
  show wpAny _ _ (if (onTheHeap (Value.ref D) && Value.builtin "BaseException.__getattribute__" == Value.builtin "object.__getattribute__") = true then _ else _) _ _ _
  rw [hx1, if_neg Bool.false_ne_true]
  unfold getAttrByItsOwn hookBefore
  refine wpAny_bind ?_
  rw [if_pos (show onTheHeap (Value.ref D) = true from rfl)]
  refine L2.at ?_
  refine wpAny_bind (wpAny_attempt (wpAny_holding ?_))
  unfold callGetattribute
  rw [hx0, if_neg Bool.false_ne_true]
  unfold boundAndCalled
  rw [PySem.F.excAttr_ValueError.ga.bind (.ref x)]
  refine wpAny_bind (wpAny_pure ?_)
  show wpAny _ _ (call (.builtin "BaseException.__getattribute__") [.ref x, .str "__class__" t]) _ _ _
  refine wpAny_call (codeAny_call_builtin PySem.F.excAttr_ValueError.ga.plain PySem.F.entry_bexc_ga ?_)
  refine @check_slot (model prog w) _ _ ⟨hp, g, d, t + 1, os⟩ "BaseException.__getattribute__" "BaseException" "__getattribute__" (.ref x) [.str "__class__" t] [] _ (by decide +kernel) (by decide +kernel) sub (PySem.F.args_bexc_ga (.ref x) (.str "__class__" t)) ?_
  unfold Builtin.«object.__getattribute__»
  refine wpAny_bind (wpAny_of_eq (a := ((Value.ref x : Value), [Value.str "__class__" t])) (by first | rfl | (simp only [slotArgs]; rfl)) ?_)
  refine wpAny_bind (wpAny_pure (wpAny_bind (L0.at (wpAny_bind (L3.at ?_)))))
  show wpAny _ _ (holding [Value.builtin "object.__class__"] (call (.builtin "getset_descriptor.__get__") [.builtin "object.__class__", .ref x, .ref D]) >>= ret) _ _ _
  refine wpAny_bind (wpAny_holding (wpAny_call (class_get (s := ⟨hp, g, d, t + 1, os⟩) (ox := ox) (od := some od) X I hm ?_)))
  refine wpAny_pure ?_
  show wpAny _ _ (handedOut (.ref D)) _ _ _
  rw [handedOut_of (v := .ref D) rfl]
  first
    | exact wpAny_pure (wpAny_pure h)
    | exact wpAny_pure h
    | exact wpAny_pure (wpAny_bind (wpAny_pure (wpAny_pure h)))
theorem kit_err (hga : findIn K (.ref D) "__getattribute__" = some (some (.builtin "BaseException.__getattribute__"))) (hgt : findIn K (.ref D) "__getattr__" = some none) (hsub : subIn K (.ref D) (.type "BaseException") = some true) (hdct : hasDictIn K D = true) (ha : findIn K (.ref D) "__class__" = some (some (.builtin "object.__class__")))
    (hn : specialIn K (.builtin "object.__class__") "__get__" = some (some (.builtin "getset_descriptor.__get__"))) (htk : takesIn K (.builtin "object.__class__") = some true) (hm : mroIn K D (.type "object") = some true) :
    KitX K (.ref x) (.ref D) (fun h => InstAt h x ox D (some od)) where
  ty := fun _ _ _ I => I.type
  it := fun _ _ X _ => by
    obtain ⟨cdD, hcD, _⟩ := any_some hdct
    unfold clsIn at hcD
    split at hcD
    · rename_i c' d' cd' sl' ho
      intro A' Q' E' s' k q
      unfold isType loadHead
      exact wpAny_bind (wpAny_loadPart (k _ _ (X _ _ ho)) (wpAny_pure q))
    · cases hcD
  ne := (handS_kitx_exc (x := x) (ox := ox) hga hgt hsub hdct ha hn htk hm).ne
  ca := fun X I k => class_of_err hga hgt hsub hdct ha hn htk hm X I k
end
end OS
namespace OS
open PySem L2 PySem.Spec PyProof.Rows
section
variable {X : Cx} {CX : CXT} {k n : Nat} {fI C : Addr} {fd : FuncData} {ps ks : List Str} {sp : Sp} {x : Str} {p pos : Pos} {e : Expr} {es : List Expr} {kws : List Keyword} {t tk : TA} {ds : List Value} {dvs : List V} {g : List Value → List Value → List Value} {gV : List V → List V → List V}
/-- C(e, ..), an own error with its own __init__, held as a value -/
def tMkV (C : Addr) (sp : Sp) (dvs : List V) (ta : TA) : TE := fun σ H Q => ta σ H fun vs H1 => vs.length ≤ 1000 ∧ ∀ a, H1 a = none → sp (.ref a :: (vs ++ dvs)) (L2.upd H1 a (exo a C none)) (fun v H2 => v = .non ∧ Q (.ref a) H2) (fun _ _ _ => False)
theorem pe_oex (T : OexC X.K C) (iC : PySem.W.findIn X.K (.ref C) "__init__" = some (some (.ref fI))) (tI : PySem.W.typeIn X.K (.ref fI) = some (.type "function"))
    (F1 : FnOk X.prog X.w X.K X.mg X.base CX k fI fd ps sp) (hr : Room (k + 1) X.A) (hb : Binds X.K fd ps ds) (hd : Vals dvs ds) (hx : Passes CX X (fun _ _ _ => False)) (hg : Gl X x) (hm : X.mg x = some (.ref C)) (ha : PA X (e :: es) t)
    (hdb : (x == ("__debug__" : Str)) = false := by decide) (he : starEach (e :: es) X.env = (false, eval e X.env) :: starEach es X.env := by rfl) (hpl : (backTo pos (starEach es X.env)).any (·.1) = false := by rfl) :
    PE X (.Call (.Name x p) (e :: es) [] pos) (tMkV C sp dvs t) := by
  refine ⟨fun pins s σ H Q I h => ?_⟩
  obtain ⟨nm, q, N, bs, bm, sn, sub, ab, col, dd, k0, k1, k2, k3, k5, hC, hbm⟩ := T.cls
  refine wpAny_Call_Name_kw (ld_glob I hg hm ?_ hdb)
  refine PySem.W.callWith_K (h₀ := X.base) I.ok.mod.kin T.kC (thn (ha.run pos pins s σ H _ I h) fun us s1 ⟨vs, H1, I1, r1, hz, q1⟩ => ⟨I1.kIn, ?_⟩) he hpl
  show wpAny _ _ (call (.ref C) us) _ _ _
  obtain ⟨hp, g, dr, tk, os⟩ := s1
  have hsz : hp.objs.size ≤ hp.objs.size + 1 := Nat.le_succ _
  have hn : H1 (hp.objs.size + 1) = none := I1.hok.fresh hsz
  have hq := q1 (hp.objs.size + 1) hn
  have kk : ∀ b o, hp.get? b = some o → ((hp.push (PySem.W.kdv_tup us)).push (PySem.HandSPX.excO C hp.objs.size)).get? b = some o := fun b o e => Heap.get?_push_of_some _ (Heap.get?_push_of_some _ e)
  have hget : ((hp.push (PySem.W.kdv_tup us)).push (PySem.HandSPX.excO C hp.objs.size)).get? (hp.objs.size + 1) = some (PySem.HandSPX.excO C hp.objs.size) := by heap_get
  have I2 : Inv X pins σ (L2.upd H1 (hp.objs.size + 1) (exo (hp.objs.size + 1) C none)) ⟨(hp.push (PySem.W.kdv_tup us)).push (PySem.HandSPX.excO C hp.objs.size), g, dr, tk, os⟩ :=
    I1.laid (t' := tk) (a := hp.objs.size + 1) (o := exo (hp.objs.size + 1) C none) (h' := (hp.push (PySem.W.kdv_tup us)).push (PySem.HandSPX.excO C hp.objs.size)) kk hsz (exo_ok hget)
  have r2 : Vals (V.ref (hp.objs.size + 1) :: (vs ++ dvs)) (Value.ref (hp.objs.size + 1) :: (us ++ ds)) := .cons rfl (r1.append hd)
  have hl : (Value.ref (hp.objs.size + 1) :: us ++ ds).length = ps.length := by
    have e := r2.length
    rw [F1.len _ _ _ _ hq] at e
    exact e.symm
  have hus : us.length ≤ sizeLine := by
    rw [← Paired.length r1, sizeLine_eq]
    omega
  refine wpAny_call (PySem.HandSPX.call_own F.excBase_ValueError (fun Y => PySem.HandSPX.refsVE_contains Y bm hbm) (I1.kIn _ _ hC) (PySem.W.looks_findIn I1.kIn iC) (fun self => PySem.W.bind_fn I1.kIn self tI) hus
    (codeAny_mono (F1.run _ X.stack _ _ ⟨Value.ref (hp.objs.size + 1) :: us, []⟩ (Value.ref (hp.objs.size + 1) :: (us ++ ds)) _ _ (fun _ _ _ => False) (hr.make C us []) (I2.env0.make C us []) (hb _ (Value.ref (hp.objs.size + 1) :: us) I2.kIn hl) r2 hq) fun r s' hq' => ?_))
  cases r with
  | error er => exact hx pins σ _ _ er s' I2 hq'
  | ok fl =>
    cases fl with
    | ret u =>
      obtain ⟨v, H', I3, rv, ev, q3⟩ := I2.after hq'
      subst ev
      exact ⟨rv, ⟨V.ref (hp.objs.size + 1), H', I3, rfl, q3⟩⟩
    | next => exact False.elim hq'
    | brk => exact False.elim hq'
    | cont => exact False.elim hq'
theorem run_oexK {pins : List (Addr × Obj)} {σ : L2.St} {H1 : Hp} {s1 : Shared} {Q : VK} {us ws : List Value} {vs zs : List V} (T : OexC X.K C) (iC : PySem.W.findIn X.K (.ref C) "__init__" = some (some (.ref fI))) (tI : PySem.W.typeIn X.K (.ref fI) = some (.type "function"))
    (F1 : FnOk X.prog X.w X.K X.mg X.base CX k fI fd ps sp) (hr : Room (k + 1) X.A) (hb : KBn X.K fd ps (n + 1) ks g gV) (hx : Passes CX X (fun _ _ _ => False)) (I1 : Inv X pins σ H1 s1) (r1 : Vals vs us) (rz : Vals zs ws) (l1 : vs.length = n) (l2 : zs.length = ks.length) (hz : vs.length ≤ 1000)
    (q1 : ∀ a, H1 a = none → sp (gV (.ref a :: vs) zs) (L2.upd H1 a (exo a C none)) (fun v H2 => v = .non ∧ Q (.ref a) H2) (fun _ _ _ => False)) :
    wpAny (model X.prog X.w) X.A (call (.ref C) us (ks.zip ws)) (EP X pins σ Q) X.xe s1 := by
  obtain ⟨nm, q, N, bs, bm, sn, sub, ab, col, dd, k0, k1, k2, k3, k5, hC, hbm⟩ := T.cls
  obtain ⟨hp, g', dr, tk, os⟩ := s1
  have hsz : hp.objs.size ≤ hp.objs.size + 1 := Nat.le_succ _
  have hn : H1 (hp.objs.size + 1) = none := I1.hok.fresh hsz
  have hq := q1 (hp.objs.size + 1) hn
  have kk : ∀ b o, hp.get? b = some o → ((hp.push (PySem.W.kdv_tup us)).push (PySem.HandSPX.excO C hp.objs.size)).get? b = some o := fun b o e => Heap.get?_push_of_some _ (Heap.get?_push_of_some _ e)
  have hget : ((hp.push (PySem.W.kdv_tup us)).push (PySem.HandSPX.excO C hp.objs.size)).get? (hp.objs.size + 1) = some (PySem.HandSPX.excO C hp.objs.size) := by heap_get
  have I2 : Inv X pins σ (L2.upd H1 (hp.objs.size + 1) (exo (hp.objs.size + 1) C none)) ⟨(hp.push (PySem.W.kdv_tup us)).push (PySem.HandSPX.excO C hp.objs.size), g', dr, tk, os⟩ :=
    I1.laid (t' := tk) (a := hp.objs.size + 1) (o := exo (hp.objs.size + 1) C none) (h' := (hp.push (PySem.W.kdv_tup us)).push (PySem.HandSPX.excO C hp.objs.size)) kk hsz (exo_ok hget)
  have r0 : Vals (V.ref (hp.objs.size + 1) :: vs) (Value.ref (hp.objs.size + 1) :: us) := .cons rfl r1
  have r2 := hb.rel r0 rz
  have n1 : (Value.ref (hp.objs.size + 1) :: us).length = n + 1 := by
    rw [List.length_cons, ← r1.length, l1]
  have hus : us.length ≤ sizeLine := by
    rw [← Paired.length r1, sizeLine_eq]
    omega
  refine wpAny_call (call_own_kw F.excBase_ValueError (fun Y => PySem.HandSPX.refsVE_contains Y bm hbm) (I1.kIn _ _ hC) (PySem.W.looks_findIn I1.kIn iC) (fun self => PySem.W.bind_fn I1.kIn self tI) hus
    (codeAny_mono (F1.run _ X.stack _ _ ⟨Value.ref (hp.objs.size + 1) :: us, ks.zip ws⟩ (g (Value.ref (hp.objs.size + 1) :: us) ws) _ _ (fun _ _ _ => False) (hr.make C us (ks.zip ws)) (I2.env0.make C us (ks.zip ws))
      (hb.to _ (Value.ref (hp.objs.size + 1) :: us) ws I2.kIn n1 (rz.length.symm.trans l2)) r2 hq) fun r s' hq' => ?_))
  cases r with
  | error er => exact hx pins σ _ _ er s' I2 hq'
  | ok fl =>
    cases fl with
    | ret u =>
      obtain ⟨v, H', I3, rv, ev, q3⟩ := I2.after hq'
      subst ev
      exact ⟨rv, ⟨V.ref (hp.objs.size + 1), H', I3, rfl, q3⟩⟩
    | next => exact False.elim hq'
    | brk => exact False.elim hq'
    | cont => exact False.elim hq'
def tMkVK (C : Addr) (n m : Nat) (sp : Sp) (gV : List V → List V → List V) (t tk : TA) : TE := fun σ H Q => t σ H fun vs H1 => tk σ H1 fun zs H2 => vs.length = n ∧ zs.length = m ∧ n ≤ 1000 ∧
  ∀ a, H2 a = none → sp (gV (.ref a :: vs) zs) (L2.upd H2 a (exo a C none)) (fun v H3 => v = .non ∧ Q (.ref a) H3) (fun _ _ _ => False)
theorem pe_oexK0 (T : OexC X.K C) (iC : PySem.W.findIn X.K (.ref C) "__init__" = some (some (.ref fI))) (tI : PySem.W.typeIn X.K (.ref fI) = some (.type "function"))
    (F1 : FnOk X.prog X.w X.K X.mg X.base CX k fI fd ps sp) (hr : Room (k + 1) X.A) (hb : KBn X.K fd ps 1 ks g gV) (hx : Passes CX X (fun _ _ _ => False)) (hg : Gl X x) (hm : X.mg x = some (.ref C)) (hkw : PK X kws tk)
    (hall : (backToKw pos (keywordEach kws X.env)).all (·.1.isSome) = true := by rfl) (hks : (backToKw pos (keywordEach kws X.env)).filterMap (·.1) = ks := by rfl) (hdb : (x == ("__debug__" : Str)) = false := by decide)
    (hpl : ((backTo pos (starEach [] X.env)).any (·.1) || (backToKw pos (keywordEach kws X.env)).any (·.1.isNone)) = false := by rfl) :
    PE X (.Call (.Name x p) [] kws pos) (tMkVK C 0 ks.length sp gV tNil tk) := by
  refine ⟨fun pins s σ H Q I h => ?_⟩
  refine wpAny_Call_Name_kw (ld_glob I hg hm ?_ hdb)
  refine PySem.W.callWith_KW0 (h₀ := X.base) I.ok.mod.kin T.kC hall ?_ hpl
  refine thn (hkw.run pos pins s σ H _ I h) fun ws s2 ⟨zs, H2, I2, rz, l1, l2, lz, q2⟩ => ⟨I2.kIn, ?_⟩
  rw [hks]
  exact run_oexK (n := 0) (us := []) (vs := []) T iC tI F1 hr hb hx I2 .nil rz rfl l2 (by decide) q2
theorem pe_oexK (T : OexC X.K C) (iC : PySem.W.findIn X.K (.ref C) "__init__" = some (some (.ref fI))) (tI : PySem.W.typeIn X.K (.ref fI) = some (.type "function"))
    (F1 : FnOk X.prog X.w X.K X.mg X.base CX k fI fd ps sp) (hr : Room (k + 1) X.A) (hb : KBn X.K fd ps (n + 1) ks g gV) (hx : Passes CX X (fun _ _ _ => False)) (hg : Gl X x) (hm : X.mg x = some (.ref C)) (ha : PA X (e :: es) t) (hkw : PK X kws tk)
    (hall : (backToKw pos (keywordEach kws X.env)).all (·.1.isSome) = true := by rfl) (hks : (backToKw pos (keywordEach kws X.env)).filterMap (·.1) = ks := by rfl) (hdb : (x == ("__debug__" : Str)) = false := by decide)
    (he : starEach (e :: es) X.env = (false, eval e X.env) :: starEach es X.env := by rfl) (hpl : ((backTo pos (starEach (e :: es) X.env)).any (·.1) || (backToKw pos (keywordEach kws X.env)).any (·.1.isNone)) = false := by rfl) :
    PE X (.Call (.Name x p) (e :: es) kws pos) (tMkVK C n ks.length sp gV t tk) := by
  refine ⟨fun pins s σ H Q I h => ?_⟩
  refine wpAny_Call_Name_kw (ld_glob I hg hm ?_ hdb)
  refine PySem.W.callWith_KW (h₀ := X.base) I.ok.mod.kin T.kC hall (thn (ha.run pos pins s σ H _ I h) fun us s1 ⟨vs, H1, I1, r, q⟩ => ?_) hpl he
  refine thn (hkw.run pos pins s1 σ H1 _ I1 q) fun ws s2 ⟨zs, H2, I2, rz, l1, l2, lz, q2⟩ => ⟨I2.kIn, ?_⟩
  rw [hks]
  exact run_oexK T iC tI F1 hr hb hx I2 r rz l1 l2 (by omega) q2
/-- X(), an own error without own __init__, as a value -/
theorem pe_exc0 {bmB : List Value} {B newId initId : String} (F : ExcBaseFacts B newId initId bmB) (q : PySem.W.excIn X.K C bmB newId = true) (gC : X.mg x = some (.ref C)) (kC : PySem.W.keepIn X.K (.ref C) = true) (hg : Gl X x)
    (hdb : (x == ("__debug__" : Str)) = false := by decide) :
    PE X (.Call (.Name x p) [] [] pos) (fun σ H Q => ∀ a, H a = none → Q (.ref a) (L2.upd H a (ExO (.ref C) a))) := by
  refine ⟨fun pins s σ H Q I h => ?_⟩
  refine wpAny_Call_Name_kw (ld_glob I hg gC ?_ hdb)
  refine PySem.W.callWith_K0 I.kIn kC ?_
  show wpAny _ _ (call (.ref C) []) _ _ _
  obtain ⟨bm, N, nm, qn, bs, hdct, sn, sub, ab, col, dd, k0, k1, k2, k3, k5, mN, hC, hN, hni, T⟩ := exc_obj I.kIn q
  refine wpAny_call_exc_subT F T hC hN hni (fun h' a hm => ?_) (by show 0 ≤ sizeLine; exact Nat.zero_le _)
  have hn : H a = none := I.hok.gone hm.new
  obtain ⟨t, ht, _, _⟩ := hm.there
  exact ⟨.ref a, L2.upd H a (ExO (.ref C) a), I.laidN hm.keeps hm.new hn (exO_ok ht ⟨rfl, rfl⟩ rfl rfl rfl (show 4 < 6 by decide)), rfl, h a hn⟩
/-- e.f of such a value -/
def tXv (C : Addr) (f : Str) (te : TE) : TE := fun σ H Q => te σ H fun x H1 => ∃ (a dd : Addr) (fs : List (Str × V)) (v : V), x = .ref a ∧ H1 a = some (exo a C (some dd)) ∧ H1 dd = some (exd dd fs) ∧ fs.lookup f = some v ∧ Q v H1
theorem pe_xv {e : Expr} {te : TE} {f : Str} (T : XfC X.K C) (hno : PySem.W.findIn X.K (.ref C) f = some none) (he : PE X e te) (hb : attributeBase e f X.env (eval e X.env) = eval e X.env := by rfl) : PE X (.Attribute e f pos) (tXv C f te) := by
  refine ⟨fun pins s σ H Q I h => ?_⟩
  refine attr_of hb (thn (he.run pins s σ H _ I h) fun u s1 hh => ?_)
  obtain ⟨x, H1, I1, rx, a, dd, fs, v, ex, ea, ed, l, q⟩ := hh
  subst ex
  obtain rfl : u = Value.ref a := rx
  obtain ⟨t1, ha⟩ := exo_at I1.hok ea
  obtain ⟨mA, hns, hr⟩ := exd_at I1.hok ed
  obtain ⟨od, ho, hl⟩ := lookIn_ns hns
  obtain ⟨u, hu, ru⟩ := RelO.some_of (v := v) (o := mA f) (by rw [← l]; exact hr f)
  have J : PySem.W.InstAt s1.heap a _ C (some od) := ⟨ha, rfl, rfl, ho⟩
  exact HandSPX.exc_get I1.kIn J T.ga T.gg T.exC (PySem.W.findObj_own T.hdC hno rfl (by rw [hl, hu])) (handed_of ru) ⟨v, H1, I1.tok _, ru, q⟩
/-- isinstance of such a value -/
def ErrV (H : Hp) (a D : Addr) : Prop := (∃ dd fs, H a = some (exo a D (some dd)) ∧ H dd = some (exd dd fs)) ∨ H a = some (ExO (.ref D) a)
def rIsV (K : PySem.W.Frag) : List V → Hp → VK → Prop := fun xs H Q => ∃ (a D : Addr) (c : V) (cv : Value) (b : Bool), xs = [.ref a, c] ∧ ErrV H a D ∧ ExcC K D ∧ (∀ u, RelV c u → u = cv) ∧ PySem.W.kitOne K (.ref D) cv = some b ∧ Q (.bl b) H
theorem call_isV : CallR X (.builtin "isinstance") (rIsV X.K) := by
  intro pins s σ H xs us Q I r h
  obtain ⟨a, D, c, cv, b, rfl, ev, C, hcv, e, q⟩ := h
  cases r with
  | cons rx rr =>
    cases rr with
    | cons rt rr =>
      cases rr
      cases rx
      have ec := hcv _ rt
      subst ec
      rcases ev with ⟨dd, fs, ea, ed⟩ | ea
      · obtain ⟨t1, ha⟩ := exo_at I.hok ea
        obtain ⟨mA, hns, hr⟩ := exd_at I.hok ed
        obtain ⟨od, ho, hl⟩ := lookIn_ns hns
        have J : PySem.W.InstAt s.heap a _ D (some od) := ⟨ha, rfl, rfl, ho⟩
        exact PySem.W.kia_one (kit_err C.hg C.hk C.hs C.hd C.ha C.hn C.ht C.hm) I.kIn J e (fun z => nomatch z) fun tk => ⟨.bl b, H, I.kept (t' := tk) fun _ _ z => z, rfl, q⟩
      · obtain ⟨⟨oe, vs, ho, hz, hd, h1, _⟩, _, _⟩ := I.hok a _ ea
        have J : PySem.W.InstAt s.heap a oe D none := by
          obtain ⟨oc, od, oda, osl⟩ := oe
          obtain ⟨h1, h2⟩ := hz
          dsimp only at h1 h2 hd
          subst h1 h2 hd
          exact ⟨ho, rfl, rfl, trivial⟩
        exact PySem.W.kia_one (PySem.W.handS_kitx_exc C.hg C.hk C.hs C.hd C.ha C.hn C.ht C.hm) I.kIn J e (fun z => nomatch z) fun tk => ⟨.bl b, H, I.kept (t' := tk) fun _ _ z => z, rfl, q⟩
end
end OS
namespace OS
open PySem L2 PySem.Spec PyProof.Rows
section
variable {X : Cx} {CX : CXT} {k : Nat} {f : Addr} {fd : FuncData} {ps ks : List Str} {sp : Sp} {E : L2.St → XK} {x : Str} {p pos : Pos} {kws : List Keyword} {tk : TA} {g : List Value → List Value → List Value} {gV : List V → List V → List V}
/-- f(k = v, ..): keywords only; what is raised is wished for at the caller's slots -/
def tCallKS (m : Nat) (sp : Sp) (gV : List V → List V → List V) (E : L2.St → XK) (tk : TA) : TE := fun σ H Q => tk σ H fun zs H1 => zs.length = m ∧ sp (gV [] zs) H1 Q (E σ)
theorem pe_callKS0 (F : FnOk X.prog X.w X.K X.mg X.base CX k f fd ps sp) (hr : Room k X.A) (hg : Gl X x) (hm : X.mg x = some (.ref f)) (hk : PySem.W.keepIn X.K (.ref f) = true) (hb : KBn X.K fd ps 0 ks g gV) (hx : ∀ σ, PassesAt CX X σ (E σ)) (hkw : PK X kws tk)
    (hall : (backToKw pos (keywordEach kws X.env)).all (·.1.isSome) = true := by rfl) (hks : (backToKw pos (keywordEach kws X.env)).filterMap (·.1) = ks := by rfl) (hdb : (x == ("__debug__" : Str)) = false := by decide)
    (hpl : ((backTo pos (starEach [] X.env)).any (·.1) || (backToKw pos (keywordEach kws X.env)).any (·.1.isNone)) = false := by rfl) :
    PE X (.Call (.Name x p) [] kws pos) (tCallKS ks.length sp gV E tk) := by
  refine ⟨fun pins s σ H Q I h => ?_⟩
  refine wpAny_Call_Name_kw (ld_glob I hg hm ?_ hdb)
  refine PySem.W.callWith_KW0 (h₀ := X.base) I.ok.mod.kin hk hall ?_ hpl
  refine thn (hkw.run pos pins s σ H _ I h) fun ws s2 ⟨zs, H2, I2, rz, l2, q2⟩ => ⟨I2.kIn, ?_⟩
  rw [hks]
  have r2 := hb.rel (vs := []) (us := []) .nil rz
  refine wpAny_call (codeAny_mono (F.run X.A X.stack s2 H2 ⟨[], ks.zip ws⟩ (g [] ws) (gV [] zs) Q (E σ) hr I2.env0 (hb.to s2 [] ws I2.kIn rfl (rz.length.symm.trans l2)) r2 q2) fun r s' hq => ?_)
  cases r with
  | error e => exact hx σ pins H2 s2 e s' I2 hq
  | ok fl =>
    cases fl with
    | ret u => exact I2.after hq
    | next => exact False.elim hq
    | brk => exact False.elim hq
    | cont => exact False.elim hq
end
/-! ### isinstance of a caught error with its own dict; a def called in an except suite -/
section
variable {X : Cx} {a D dd : Addr} {oe : Obj} {pn : List (Addr × Obj)}
def rIsEd (K : PySem.W.Frag) (cls : Value) (D a : Addr) (d : Option Addr) : List V → Hp → VK → Prop := fun xs H Q => ∃ (c : V) (cv : Value) (b : Bool), xs = [.ref a, c] ∧ cls = .ref D ∧ (∃ dd fs, d = some dd ∧ H dd = some (.xd fs)) ∧ (∀ u, RelV c u → u = cv) ∧ PySem.W.kitOne K (.ref D) cv = some b ∧ Q (.bl b) H
theorem call_isEd {cls : Value} {d : Option Addr} (C : ExcC X.K D) (hz : Zc cls d oe) (hf : ∃ vs, oe.data = .fields vs) : CallR (X.suite a ((a, oe) :: pn)) (.builtin "isinstance") (rIsEd X.K cls D a d) := by
  intro pins s σ H xs us Q I r h
  obtain ⟨c, cv, b, rfl, rfl, ⟨dd, fs, rfl, hd⟩, hcv, e, q⟩ := h
  cases r with
  | cons rx rr =>
    cases rr with
    | cons rt rr =>
      cases rr
      cases rx
      have ec := hcv _ rt
      subst ec
      obtain ⟨ha, _⟩ := I.pin (a, oe) (List.mem_append_left pins List.mem_cons_self)
      obtain ⟨vs, hdat⟩ := hf
      obtain ⟨mA, hns, hr⟩ := I.hok dd (HO.xd fs) hd
      obtain ⟨od, ho, hl⟩ := lookIn_ns hns
      have J : PySem.W.InstAt s.heap a oe D (some od) := by
        obtain ⟨oc, odd, oda, osl⟩ := oe
        obtain ⟨h1, h2⟩ := hz
        dsimp only at h1 h2 hdat
        subst h1 h2 hdat
        exact ⟨ha, rfl, rfl, ho⟩
      exact PySem.W.kia_one (kit_err C.hg C.hk C.hs C.hd C.ha C.hn C.ht C.hm) I.kIn J e (fun z => nomatch z) fun tk => ⟨.bl b, H, I.kept (t' := tk) fun _ _ z => z, rfl, q⟩
end
section
variable {P : Program} {w : World} {K : PySem.W.Frag} {mg : Str → Option Value} {base : Heap} {x qual : Str} {st : Stmt} {f : Addr} {fd : FuncData} {N ps : List Str} {k : Nat} {sp : Sp}
theorem okH (F : Fun K x qual st f fd) (S : FnScope N ps (defScope st)) (len : ∀ vs H Q E, sp vs H Q E → vs.length = ps.length)
    (hbody : ∀ (cdv : Value) (A : Around) (outer : List Env) (s : Shared) (H : Hp) (vs : List V) (Q : VK) (E : XK) (p : Addr × Obj), L2H.Hot1 A p → L2H.RoomH k (A.deeper (PyProof.Rows.envOfC qual (defScope st) s.heap.objs.size f cdv)) → sp vs H Q E →
      ∃ t, PSs (L2H.cxH CX0 P w K mg base N qual (defScope st) f cdv A outer s H E p) (defBody st) t ∧ t { nx := fun _ H' => Q .non H', rt := Q } (L2.start N vs) H) : L2H.FnH P w K mg base CX0 (k + 1) f fd ps sp := by
  obtain ⟨oc, od, kV, doc, pm, an, cdv, ct, osl, rfl, lk, hcd⟩ := F.ex
  exact L2H.fn_ofH lk hcd S len fun A outer s H vs Q E p h1 hr hsp => hbody cdv A outer s H vs Q E p h1 hr hsp
end
end OS
namespace OS
open PySem L2 PySem.Spec PyProof.Rows
/-! ### a def called where an exception may be handled: nothing leaves it -/
abbrev cxC (P : Program) (w : World) (K : PySem.W.Frag) (mg : Str → Option Value) (base : Heap) (N : List Str) (qual : Str) (scope : Scope) (f : Addr) (cd : Value) (A : Around) (outer : List Env) (s : Shared) (H : Hp) (E : XK) : Cx :=
  { cxOf CX0 P w K mg base N qual scope f cd A outer s H E with calm := false }
structure FnC (P : Program) (w : World) (K : PySem.W.Frag) (mg : Str → Option Value) (base : Heap) (k : Nat) (f : Addr) (fd : FuncData) (ps : List Str) (sp : Sp) : Prop where
  len : ∀ vs H Q E, sp vs H Q E → vs.length = ps.length
  run : ∀ (A : Around) (outer : List Env) (s : Shared) (H : Hp) (args : Args) (us : List Value) (vs : List V) (Q : VK) (E : XK), L2H.RoomH k A → Env0 P w K mg base A outer s H → BindsTo s fd args (ps.zip us) → Vals vs us → sp vs H Q E → codeAny (model P w) A (.call (.ref f) args) (CR CX0 outer P w H s Q E) s
section
variable {P : Program} {w : World} {K : PySem.W.Frag} {mg : Str → Option Value} {base : Heap} {x qual : Str} {st : Stmt} {f : Addr} {fd : FuncData} {N ps : List Str} {k : Nat} {sp : Sp}
theorem inv_startC {scope : Scope} {cd : Value} {A : Around} {outer : List Env} {s s1 : Shared} {H : Hp} {E : XK} {us : List Value} {vs : List V} (S : FnScope N ps scope) (e0 : Env0 P w K mg base A outer s H) (hl : vs.length = ps.length) (r : Vals vs us)
    (x : InCallC s s.heap.objs.size (bindL (PyProof.Rows.envOfC qual scope s.heap.objs.size f cd).kindOf (ps.zip us) fun _ => none) (cellsFrom (s.heap.objs.size + 1) scope.names []) (bindC (PyProof.Rows.envOfC qual scope s.heap.objs.size f cd).kindOf (ps.zip us) fun _ => none) s1) :
    Inv (cxC P w K mg base N qual scope f cd A outer s H E) [] (L2.start N vs) H s1 := by
  have e1 : Env0 P w K mg base { A with handled := none } outer s H := ⟨e0.frames, e0.mod, e0.bs, e0.bsz, e0.funs, e0.frf, e0.hok, e0.bare⟩
  have J := inv_start (CX := CX0) (A := { A with handled := none }) (E := E) S rfl e1 hl r x
  exact ⟨⟨J.ok.mod, J.ok.kind, J.ok.glob, J.ok.blt, J.ok.above, J.ok.inj, J.ok.has, J.ok.cab, fun z => Bool.noConfusion z, Around.frames_deeper e0.frames, J.ok.stk, J.ok.exf, J.ok.bs, J.ok.bsz, J.ok.noex, J.ok.exfs, J.ok.funs, J.ok.frf⟩,
    J.os, J.bare, J.base, J.loc, J.cell, J.free, J.freeC, J.pin, J.hok, J.len⟩
theorem Fun.okC (F : Fun K x qual st f fd) (S : FnScope N ps (defScope st)) (len : ∀ vs H Q E, sp vs H Q E → vs.length = ps.length)
    (hbody : ∀ (cdv : Value) (A : Around) (outer : List Env) (s : Shared) (H : Hp) (vs : List V) (Q : VK) (E : XK), L2H.RoomH k (A.deeper (PyProof.Rows.envOfC qual (defScope st) s.heap.objs.size f cdv)) → sp vs H Q E →
      ∃ t, PSs (cxC P w K mg base N qual (defScope st) f cdv A outer s H E) (defBody st) t ∧ t { nx := fun _ H' => Q .non H', rt := Q } (L2.start N vs) H) : FnC P w K mg base (k + 1) f fd ps sp := by
  obtain ⟨oc, od, kV, doc, pm, an, cdv, ct, osl, rfl, lk, hcd⟩ := F.ex
  refine ⟨len, fun A outer s H args us vs Q E hr e0 hb r hsp => ?_⟩
  have hl := len vs H Q E hsp
  have KX := PySem.W.Frag.In.keeps e0.mod.kin fun b o e => (e0.bs b o e).left
  have lim := Heap.NoLimit.keeps e0.mod.nolimit fun b o e => (e0.bs b o e).left
  have hkind : ∀ y ∈ ps.zip us, List.lookup y.1 (defScope st).names = some NameKind.local ∨ List.lookup y.1 (defScope st).names = some NameKind.cell ∧ (List.lookup y.1 (cellsFrom (s.heap.objs.size + 1) (defScope st).names [])).isSome = true := by
    rintro ⟨n, v⟩ hy
    rcases S.par n (List.of_mem_zip hy).left with q | q
    · exact .inl q
    · exact .inr ⟨q, PySem.W.cellsFrom_some (defScope st).names (s.heap.objs.size + 1) [] (Or.inl q)⟩
  refine codeAny_call_function (L2H.RoomH.depth hr) (KX f _ lk) rfl S.co S.gen rfl (PySem.W.codeRec_of KX hcd) (hb (model P w) A.in1 _ _ ?_)
  refine wpAny_newFunctionEnv_cells S.kind hkind fun env he s1 x => ?_
  subst he
  refine ⟨Heap.NoLimit.keeps lim x.toInCall.keep, codeAny_func ?_⟩
  obtain ⟨t, ht, hq⟩ := hbody cdv A outer s H vs Q E (L2H.RoomH.deeper hr (PyProof.Rows.envOfC qual (defScope st) s.heap.objs.size f cdv)) hsp
  have I := inv_startC (E := E) S e0 hl r x
  refine wpAny_mono (ht.run [] s1 (L2.start N vs) H { nx := fun _ H' => Q V.non H', rt := Q } I hq) (fun fl s' hs => ?_) fun e s' hs => hs
  have fin : ∀ {σ' : L2.St} {H' : Hp} {v : V} {u : Value}, Inv (cxC P w K mg base N qual (defScope st) f cdv A outer s H E) [] σ' H' s' → RelV v u → Q v H' → CR CX0 outer P w H s Q E (.ok (.ret u)) s' := fun {σ' H' v u} J rv q => ⟨v, H', J.os, J.bare, J.base, J.hok, rv, q⟩
  cases fl with
  | next => obtain ⟨σ', H', J, q⟩ := hs; exact fin (v := .non) (u := .none) J rfl q
  | brk => obtain ⟨_, _, _, q⟩ := hs; exact False.elim q
  | cont => obtain ⟨_, _, _, q⟩ := hs; exact False.elim q
  | ret u => obtain ⟨v, σ', H', J, rv, q⟩ := hs; exact fin J rv q
end
section
variable {X : Cx} {k : Nat} {f : Addr} {fd : FuncData} {ps : List Str} {sp : Sp} {x : Str} {p pos : Pos} {e : Expr} {es : List Expr} {t : TA}
theorem pe_callC (F : FnC X.prog X.w X.K X.mg X.base k f fd ps sp) (hr : L2H.RoomH k X.A) (hg : Gl X x) (hm : X.mg x = some (.ref f)) (hk : PySem.W.keepIn X.K (.ref f) = true) (hb : Binds X.K fd ps []) (ha : PA X (e :: es) t)
    (hdb : (x == ("__debug__" : Str)) = false := by decide) (he : starEach (e :: es) X.env = (false, eval e X.env) :: starEach es X.env := by rfl) (hpl : (backTo pos (starEach es X.env)).any (·.1) = false := by rfl) :
    PE X (.Call (.Name x p) (e :: es) [] pos) (fun σ H Q => t σ H fun vs H1 => sp vs H1 Q E0) := by
  refine ⟨fun pins s σ H Q I h => ?_⟩
  refine wpAny_Call_Name_kw (ld_glob I hg hm ?_ hdb)
  refine PySem.W.callWith_K (h₀ := X.base) I.ok.mod.kin hk (thn (ha.run pos pins s σ H _ I h) fun us s1 ⟨vs, H1, I1, r, q⟩ => ⟨I1.kIn, ?_⟩) he hpl
  have hl : (us ++ []).length = ps.length := by rw [List.append_nil, ← r.length, F.len _ _ _ _ q]
  have b := hb s1 us I1.kIn hl
  rw [List.append_nil] at b
  refine wpAny_call (codeAny_mono (F.run X.A X.stack s1 H1 ⟨us, []⟩ us vs Q E0 hr I1.env0 b r q) fun r s' hq => ?_)
  cases r with
  | error e => exact False.elim hq
  | ok fl =>
    cases fl with
    | ret u => exact I1.after hq
    | next => exact False.elim hq
    | brk => exact False.elim hq
    | cont => exact False.elim hq
end
end OS
namespace OS
open PySem L2
/-! ### an own error with one field -/
/-- what the head knows of the class of an error at C, its __init__ at fI -/
structure ErrC (K : PySem.W.Frag) (mg : Str → Option Value) (x : Str) (C fI : Addr) (fld : Str) : Prop where
  mg : mg x = some (.ref C)
  ox : OexC K C
  iC : PySem.W.findIn K (.ref C) "__init__" = some (some (.ref fI))
  tI : PySem.W.typeIn K (.ref fI) = some (.type "function")
  no : PySem.W.findIn K (.ref C) fld = some none
  xf : XfC K C
  te : PySem.W.exmOne K (.ref C) (.ref C) = some true
/-- its __init__(self, y) -/
def spE (K : PySem.W.Frag) (C : Addr) (fld : Str) : Sp := fun vs H Q _ => ∃ (a : Addr) (y : V), vs = [.ref a, y] ∧ H a = some (exo a C none) ∧
  ∀ dx, H dx = none → dx ≠ a → Q .non (L2.upd (L2.upd H dx (exd dx [(fld, y)])) a (exo a C (some dx)))
/-- a made error's end: the heap has got its dict and nothing else -/
theorem made_heap {H : Hp} {a d : Addr} {fs : List (Str × V)} {o1 o2 : HO} (na : H a = none) (hd : d ≠ a) : ∀ b, (L2.upd (L2.del (L2.upd (L2.upd (L2.upd H a o1) d (exd d fs)) a o2) a) d (.xd fs)) b = (L2.upd H d (.xd fs)) b := by
  intro b
  by_cases h1 : b = d
  · rw [h1, upd_same, upd_same]
  · rw [upd_ne h1, upd_ne h1]
    by_cases h2 : b = a
    · rw [h2, del_same, na]
    · rw [del_ne h2, upd_ne h2, upd_ne h1, upd_ne h2]
end OS
namespace OS
open PySem L2 PySem.Spec PyProof.Rows
theorem kit_ref {K : PySem.W.Frag} {a c : Addr} {b : Bool} (hd : PySem.W.hasDictIn K c = true) (ty : PySem.W.typeIn K (.ref c) = some (.type "type")) (hself : PySem.W.subIn K (.ref c) (.ref c) = some true) (h : PySem.W.subIn K (.ref a) (.ref c) = some b) :
    PySem.W.kitOne K (.ref a) (.ref c) = some b := by
  unfold PySem.W.kitOne
  by_cases e : a = c
  · subst e
    rw [h] at hself
    cases hself
    rw [if_pos (by simp)]
  · rw [if_neg (by simpa using e)]
    obtain ⟨cd, hc, _⟩ := PySem.W.any_some hd
    show (if ((PySem.W.clsIn K c).isSome && PySem.W.typeIn K (.ref c) == some (.type "type")) = true then PySem.W.subIn K (.ref a) (.ref c) else none) = some b
    rw [if_pos (by rw [hc, ty] <;> rfl)]
    exact h
theorem kit_val {K : PySem.W.Frag} {a : Addr} (h : PySem.W.subIn K (.ref a) (.type "ValueError") = some true) : PySem.W.kitOne K (.ref a) (.type "ValueError") = some true := by
  unfold PySem.W.kitOne
  rw [if_neg (show ¬ ((Value.ref a == Value.type "ValueError") = true) from Bool.false_ne_true)]
  show (if PySem.W.kitMeta "ValueError" = true then PySem.W.subIn K (.ref a) (.type "ValueError") else none) = some true
  rw [if_pos (by decide +kernel)]
  exact h
/-- a call with keywords of a def without defaults -/
theorem kb_of {K : PySem.W.Frag} {x qual : Str} {st : Stmt} {f : Addr} {fd : FuncData} {ps : List Str} (F : Fun K x qual st f fd) (n : Nat) (ks : List Str) (g : {α : Type} → List α → List α → List α)
    (hrel : ∀ {vs zs : List V} {us ws : List Value}, Vals vs us → Vals zs ws → Vals (g vs zs) (g us ws))
    (h : ∀ (kV doc pm : Value) (an : Option Addr) (cdv ct : Value) (us ws : List Value), us.length = n → ws.length = ks.length → bindArgs (PySem.W.fnOf x qual (defArgs st) (defBody st) (defScope st) .none kV doc pm an cdv ct) ⟨us, ks.zip ws⟩ = pure (ps.zip (g us ws))) :
    KBn K fd ps n ks (fun us ws => g us ws) (fun vs zs => g vs zs) := by
  obtain ⟨oc, od, kV, doc, pm, an, cdv, ct, osl, rfl, lk, hcd⟩ := F.ex
  exact ⟨fun s us ws X l1 l2 => .of_eq (h kV doc pm an cdv ct us ws l1 l2), fun r1 r2 => hrel r1 r2⟩
end OS
namespace OS
open PySem L2
/-! ### primes, bases, sums: the numbers -/
def isP (n : Nat) : Prop := 2 ≤ n ∧ ∀ d, 2 ≤ d → d < n → ¬ d ∣ n
theorem isP_sq {n f : Nat} (h2 : 2 ≤ n) (h : ∀ d, 2 ≤ d → d < f → d < n → ¬ d ∣ n) (hf : n < f * f) : isP n := by
  refine ⟨h2, fun d d2 dn dv => ?_⟩
  obtain ⟨e, he⟩ := dv
  by_cases hd : d < f
  · exact h d d2 hd dn ⟨e, he⟩
  · have hd' : f ≤ d := Nat.not_lt.mp hd
    have ef : e < f := by
      refine Nat.lt_of_not_le fun q => ?_
      have := Nat.mul_le_mul hd' q
      omega
    have e2 : 2 ≤ e := by
      rcases e with _ | _ | e
      · omega
      · omega
      · omega
    have en : e < n := by
      rw [he]
      have : 2 * e ≤ d * e := Nat.mul_le_mul_right e d2
      omega
    exact h e e2 ef en ⟨d, by rw [he, Nat.mul_comm]⟩
theorem isP_gcd {p s : Nat} (hp : isP p) (h : s.gcd p ≠ 1) : p ∣ s := by
  have hd : s.gcd p ∣ p := Nat.gcd_dvd_right s p
  have hp0 : 0 < p := by have := hp.1; omega
  have hg0 : 0 < s.gcd p := Nat.gcd_pos_of_pos_right _ hp0
  have hle : s.gcd p ≤ p := Nat.le_of_dvd hp0 hd
  have : s.gcd p = p := by
    rcases Nat.lt_or_ge (s.gcd p) p with q | q
    · exact absurd hd (hp.2 _ (by omega) q)
    · omega
  rw [← this]
  exact Nat.gcd_dvd_left s p
/-- what a base is: from 2 on, prime to all the sums, and the least such -/
def isB (ss : List Int) (b : Nat) : Prop := 2 ≤ b ∧ (∀ s ∈ ss, s.natAbs.gcd b = 1) ∧ ∀ d, 2 ≤ d → d < b → ∃ s ∈ ss, s.natAbs.gcd d ≠ 1
theorem isB_prime {ss : List Int} {b : Nat} (h : isB ss b) : isP b := by
  refine ⟨h.1, fun d d2 db dv => ?_⟩
  obtain ⟨s, hs, hg⟩ := h.2.2 d d2 db
  have h1 := h.2.1 s hs
  have : s.natAbs.gcd d ∣ s.natAbs.gcd b := Nat.gcd_dvd_gcd_of_dvd_right _ dv
  rw [h1] at this
  exact hg (Nat.dvd_one.mp this)
theorem isB_ndvd {ss : List Int} {b : Nat} (h : isB ss b) : ∀ s ∈ ss, ¬ b ∣ s.natAbs := by
  intro s hs dv
  have h1 := h.2.1 s hs
  rw [Nat.gcd_eq_right dv] at h1
  have := h.1
  omega
theorem isB_below {ss : List Int} {b d : Nat} (h : isB ss b) (d2 : 2 ≤ d) (db : d < b) (hp : isP d) : ∃ s ∈ ss, d ∣ s.natAbs := by
  obtain ⟨s, hs, hg⟩ := h.2.2 d d2 db
  exact ⟨s, hs, isP_gcd hp hg⟩
def prodL (l : List Nat) : Nat := l.foldr (· * ·) 1
def absProd (ss : List Int) : Nat := ss.foldr (fun s m => s.natAbs * m) 1
theorem absProd_pos : ∀ {ss : List Int}, (∀ s ∈ ss, s ≠ 0) → 0 < absProd ss
  | [], _ => by decide
  | s :: ss, h => Nat.mul_pos (by have := h s List.mem_cons_self; omega) (absProd_pos fun t ht => h t (List.mem_cons_of_mem _ ht))
theorem absProd_lt {b : Nat} : ∀ {ss : List Int}, (∀ s ∈ ss, s.natAbs < 2 ^ b) → absProd ss ≤ 2 ^ (b * ss.length)
  | [], _ => by simp [absProd]
  | s :: ss, h => by
    have := absProd_lt (b := b) fun t ht => h t (List.mem_cons_of_mem s ht)
    have h1 := h s List.mem_cons_self
    show s.natAbs * absProd ss ≤ _
    rw [List.length_cons, Nat.mul_succ, Nat.pow_add, Nat.mul_comm (2 ^ (b * ss.length))]
    exact Nat.mul_le_mul (Nat.le_of_lt h1) this
theorem dvd_absProd : ∀ {ss : List Int} {s : Int} {p : Nat}, s ∈ ss → p ∣ s.natAbs → p ∣ absProd ss
  | t :: ss, s, p, h, d => by
    show p ∣ t.natAbs * absProd ss
    rcases List.mem_cons.mp h with e | e
    · subst e; exact Nat.dvd_mul_right_of_dvd d _
    · exact Nat.dvd_mul_left_of_dvd (dvd_absProd e d) _
def pairwise1 : List Nat → Nat → Bool
  | [], _ => true
  | p :: l, a => (a.gcd p == 1) && pairwise1 l (a * p)
def prodA : List Nat → Nat → Nat
  | [], a => a
  | p :: l, a => prodA l (a * p)
theorem prod_dvd : ∀ (l : List Nat) (a n : Nat), pairwise1 l a = true → a ∣ n → (∀ p ∈ l, p ∣ n) → prodA l a ∣ n
  | [], a, n, _, h, _ => h
  | p :: l, a, n, h, ha, hl => by
    unfold pairwise1 at h
    rw [Bool.and_eq_true] at h
    have hc : Nat.Coprime a p := by have := h.1; simpa using this
    exact prod_dvd l (a * p) n h.2 (Nat.Coprime.mul_dvd_of_dvd_of_dvd hc ha (hl p List.mem_cons_self)) fun q hq => hl q (List.mem_cons_of_mem _ hq)
def smallP (p : Nat) : Bool := Nat.ble 2 p && (List.range 75).all fun d => Nat.ble d 1 || Nat.ble p d || !(p % d == 0)
def primesTo : List Nat := (List.range 5500).filter smallP
theorem smallP_isP {p : Nat} (h : smallP p = true) (hp : p < 5500) : isP p := by
  unfold smallP at h
  rw [Bool.and_eq_true, List.all_eq_true] at h
  refine isP_sq (f := 75) (Nat.le_of_ble_eq_true h.1) (fun d d2 d75 dp dv => ?_) (by omega)
  have := h.2 d (List.mem_range.mpr d75)
  have e1 : Nat.ble d 1 = false := by
    cases e : Nat.ble d 1 with
    | false => rfl
    | true => have := Nat.le_of_ble_eq_true e; omega
  have e2 : Nat.ble p d = false := by
    cases e : Nat.ble p d with
    | false => rfl
    | true => have := Nat.le_of_ble_eq_true e; omega
  rw [e1, e2, Nat.mod_eq_zero_of_dvd dv] at this
  cases this
theorem primes_ok : pairwise1 primesTo 1 = true ∧ 2 ^ 7380 ≤ prodA primesTo 1 := by decide +kernel
theorem some_base (ss : List Int) (hl : ss.length ≤ 63) (h0 : ∀ s ∈ ss, s ≠ 0) (hb : ∀ s ∈ ss, s.natAbs < 2 ^ 117) : ∃ d, 2 ≤ d ∧ d < 5500 ∧ ∀ s ∈ ss, s.natAbs.gcd d = 1 := by
  refine Classical.byContradiction fun hne => ?_
  have hall : ∀ p ∈ primesTo, p ∣ absProd ss := by
    intro p hp
    obtain ⟨h1, h2⟩ := List.mem_filter.mp hp
    have hlt := List.mem_range.mp h1
    have hP := smallP_isP h2 hlt
    have : ∃ s ∈ ss, s.natAbs.gcd p ≠ 1 := by
      refine Classical.byContradiction fun q => hne ⟨p, hP.1, hlt, fun s hs => ?_⟩
      exact Classical.byContradiction fun g => q ⟨s, hs, g⟩
    obtain ⟨s, hs, hg⟩ := this
    exact dvd_absProd hs (isP_gcd hP hg)
  have hd := prod_dvd primesTo 1 (absProd ss) primes_ok.1 (Nat.one_dvd _) hall
  have hle := Nat.le_of_dvd (absProd_pos h0) hd
  have hlt := absProd_lt hb
  have : 2 ^ (117 * ss.length) ≤ 2 ^ 7371 := Nat.pow_le_pow_right (by decide) (by omega)
  have hbig : (2 : Nat) ^ 7371 < 2 ^ 7380 := by decide +kernel
  have := primes_ok.2
  omega
theorem least_of {p : Nat → Prop} : ∀ n, (∃ d, d < n ∧ p d) → ∃ b, b < n ∧ p b ∧ ∀ d, d < b → ¬ p d := by
  intro n
  induction n with
  | zero => rintro ⟨d, h, _⟩; omega
  | succ n ih =>
    rintro ⟨d, hd, hp⟩
    by_cases h : ∃ d, d < n ∧ p d
    · obtain ⟨b, hb, r⟩ := ih h
      exact ⟨b, by omega, r⟩
    · refine ⟨n, by omega, ?_, fun e he hpe => h ⟨e, he, hpe⟩⟩
      have : d = n := by
        refine Classical.byContradiction fun q => h ⟨d, by omega, hp⟩
      exact this ▸ hp
theorem least_base (ss : List Int) (hl : ss.length ≤ 63) (h0 : ∀ s ∈ ss, s ≠ 0) (hb : ∀ s ∈ ss, s.natAbs < 2 ^ 117) : ∃ b, b < 5500 ∧ isB ss b := by
  obtain ⟨d, d2, dl, hd⟩ := some_base ss hl h0 hb
  obtain ⟨b, bl, ⟨b2, hb1⟩, hmin⟩ := least_of (p := fun d => 2 ≤ d ∧ ∀ s ∈ ss, s.natAbs.gcd d = 1) 5500 ⟨d, dl, d2, hd⟩
  refine ⟨b, bl, b2, hb1, fun e e2 eb => ?_⟩
  refine Classical.byContradiction fun q => hmin e eb ⟨e2, fun s hs => ?_⟩
  exact Classical.byContradiction fun g => q ⟨s, hs, g⟩
/-! ### the sums of all selections -/
def psf (acc : List Int) (n : Int) : List Int := acc ++ [n] ++ acc.map fun t => t + n
def msT (ns : List Int) : Nat → Nat → Int
  | 0, _ => 0
  | i + 1, m => msT ns i m + if m / 2 ^ i % 2 = 1 then ns.getD i 0 else 0
def tabT (ns : List Int) (i : Nat) : List Int := (List.range (2 ^ i - 1)).map fun j => msT ns i (j + 1)
theorem msT_hi (ns : List Int) {i m : Nat} : ∀ k, k ≤ i → msT ns k (2 ^ i + m) = msT ns k m := by
  intro k
  induction k with
  | zero => intro _; rfl
  | succ k ih =>
    intro hk
    have e : (2 ^ i + m) / 2 ^ k % 2 = m / 2 ^ k % 2 := by
      obtain ⟨j, rfl⟩ : ∃ j, i = k + 1 + j := ⟨i - (k + 1), by omega⟩
      have : 2 ^ (k + 1 + j) + m = m + 2 ^ k * (2 * 2 ^ j) := by
        rw [Nat.pow_add, Nat.pow_add, Nat.pow_one, Nat.add_comm, Nat.mul_assoc]
      rw [this, Nat.add_mul_div_left _ _ (Nat.two_pow_pos k)]
      omega
    show msT ns k _ + (if (2 ^ i + m) / 2 ^ k % 2 = 1 then _ else _) = msT ns k m + _
    rw [ih (by omega), e]
theorem msT_zero (ns : List Int) : ∀ i, msT ns i 0 = 0 := by
  intro i
  induction i with
  | zero => rfl
  | succ i ih =>
    show msT ns i 0 + (if 0 / 2 ^ i % 2 = 1 then _ else _) = 0
    rw [ih, Nat.zero_div]
    rfl
theorem tab_len (ns : List Int) (i : Nat) : (tabT ns i).length = 2 ^ i - 1 := by unfold tabT; rw [List.length_map, List.length_range]
theorem tab_get (ns : List Int) {i j : Nat} (h : j < 2 ^ i - 1) : (tabT ns i)[j]? = some (msT ns i (j + 1)) := by
  unfold tabT
  rw [List.getElem?_map, List.getElem?_range h]
  rfl
theorem tab_succ (ns : List Int) (i : Nat) : tabT ns (i + 1) = psf (tabT ns i) (ns.getD i 0) := by
  have hp : 0 < 2 ^ i := Nat.two_pow_pos i
  have h2 : 2 ^ (i + 1) = 2 ^ i + 2 ^ i := by rw [Nat.pow_succ]; omega
  refine List.ext_getElem? fun j => ?_
  unfold psf
  by_cases hj : j < 2 ^ (i + 1) - 1
  · rw [tab_get ns hj]
    show some (msT ns i (j + 1) + if (j + 1) / 2 ^ i % 2 = 1 then ns.getD i 0 else 0) = _
    by_cases h1 : j < 2 ^ i - 1
    · rw [List.append_assoc, List.getElem?_append_left (by rw [tab_len]; exact h1), tab_get ns h1, Nat.div_eq_of_lt (by omega)]
      simp
    · obtain ⟨r, hr⟩ : ∃ r, j + 1 = 2 ^ i + r := ⟨j + 1 - 2 ^ i, by omega⟩
      have hr2 : r < 2 ^ i := by omega
      have hd : (2 ^ i + r) / 2 ^ i = 1 := by
        rw [Nat.add_div_left _ hp, Nat.div_eq_of_lt hr2]
      rw [hr, msT_hi ns i (Nat.le_refl _), hd, if_pos rfl, List.append_assoc, List.getElem?_append_right (by rw [tab_len]; omega), tab_len]
      rcases r with _ | r
      · rw [show j - (2 ^ i - 1) = 0 by omega, msT_zero, Int.zero_add]
        rfl
      · rw [show j - (2 ^ i - 1) = r + 1 by omega]
        show _ = ((tabT ns i).map fun t => t + ns.getD i 0)[r]?
        rw [List.getElem?_map, tab_get ns (by omega)]
        rfl
  · rw [List.getElem?_eq_none (by rw [tab_len]; omega), List.getElem?_eq_none]
    simp only [List.length_append, List.length_map, tab_len, List.length_cons, List.length_nil]
    omega
theorem msT_bd {ns : List Int} {B : Nat} (hb : ∀ n ∈ ns, n.natAbs ≤ B) (m : Nat) : ∀ i, (msT ns i m).natAbs ≤ i * B := by
  intro i
  induction i with
  | zero => simp [msT]
  | succ i ih =>
    have hg : (ns.getD i 0).natAbs ≤ B := by
      rw [List.getD_eq_getElem?_getD]
      cases e : ns[i]? with
      | none => simp
      | some z => exact hb z (List.mem_of_getElem? e)
    show (msT ns i m + if m / 2 ^ i % 2 = 1 then ns.getD i 0 else 0).natAbs ≤ _
    rw [Nat.succ_mul]
    split <;> omega
theorem tab_bd {ns : List Int} {B : Nat} (hb : ∀ n ∈ ns, n.natAbs ≤ B) (i : Nat) : ∀ s ∈ tabT ns i, s.natAbs ≤ i * B := by
  intro s hs
  unfold tabT at hs
  obtain ⟨j, _, rfl⟩ := List.mem_map.mp hs
  exact msT_bd hb _ i
end OS
namespace ZM
open PySem PySem.Spec PyProof.Rows L2
/-- the two sorts of rows -/
inductive Kd | l | t
def Kd.it : Kd → Heap → Addr → Addr → Nat → Prop
  | .l, h, i, a, k => h.IsListIter i a k
  | .t, h, i, a, k => h.IsTupleIter i a k
def Kd.sq : Kd → Heap → Addr → Array Value → Prop
  | .l, h, a, xs => h.IsList a xs
  | .t, h, a, xs => h.IsTuple a xs
def Kd.nm : Kd → String
  | .l => "list_iterator"
  | .t => "tuple_iterator"
def Kd.vs : Kd → PySem.W.Frag → Hp → Addr → List V → Prop
  | .l, K, H, a, xs => SqL K H a xs
  | .t, K, H, a, xs => SqT K H a xs
theorem Kd.it.itE {k : Kd} {h h' : Heap} {b i a n} (x : k.it h i a n) (hs : Heap.ExtBut b h h') (e : i ≠ b) : k.it h' i a n := by
  cases k
  · exact Heap.IsListIter.extBut x hs e
  · exact Heap.IsTupleIter.extBut x hs e
theorem Kd.sq.sqE {k : Kd} {h h' : Heap} {b a xs} (x : k.sq h a xs) (hs : Heap.ExtBut b h h') (e : a ≠ b) : k.sq h' a xs := by
  cases k
  · exact Heap.IsList.extBut x hs e
  · exact Heap.IsTuple.extBut x hs e
theorem Kd.it.itA {k : Kd} {h h' : Heap} {i a n} (x : k.it h i a n) (e : ∀ o, h.get? i = some o → h'.get? i = some o) : k.it h' i a n := by
  cases k
  · exact Heap.IsListIter.at x e
  · exact Heap.IsTupleIter.at x e
theorem Kd.it.itO {k : Kd} {h : Heap} {i a n} (x : k.it h i a n) : ∃ o, h.get? i = some o ∧ ∀ v, o.data ≠ .cell v := by
  cases k
  · obtain ⟨o, e, _, d⟩ := x
    exact ⟨o, e, fun v q => by rw [d] at q; cases q⟩
  · obtain ⟨o, e, _, d⟩ := x
    exact ⟨o, e, fun v q => by rw [d] at q; cases q⟩
theorem Kd.row {k : Kd} {X : Cx} {pins : List (Addr × Obj)} {σ : L2.St} {H : Hp} {s : Shared} {a : Addr} {xs : List V} (I : Inv X pins σ H s) (q : k.vs X.K H a xs) :
    ∃ its : List Value, Vals xs its ∧ k.sq s.heap a its.toArray ∧ a < s.heap.objs.size := by
  cases k
  · obtain ⟨its, rv, p, _⟩ := I.list q
    exact ⟨its, rv, p.isList, p.lt⟩
  · obtain ⟨its, rv, p, _⟩ := I.tuple q
    refine ⟨its, rv, p, ?_⟩
    obtain ⟨o, ho, _⟩ := id p
    exact Heap.lt_size ho
theorem Kd.inj {k : Kd} {X : Cx} {pins : List (Addr × Obj)} {σ : L2.St} {H : Hp} {s : Shared} {a : Addr} {xs ys : List V} (I : Inv X pins σ H s) (q : k.vs X.K H a xs) (q2 : k.vs X.K H a ys) : xs = ys := by
  cases k
  · exact I.list_inj q q2
  · exact I.tuple_inj q q2
section
variable {prog : Program} {w : World} {A : Around} {E : Value → Shared → Prop} {s : Shared}
theorem Kd.nxt {k : Kd} {it l : Addr} {i : Nat} {items} {x : Value} {Q : Value → Shared → Prop} (hit : k.it s.heap it l i) (hl : k.sq s.heap l items) (hx : items[i]? = some x)
    (hQ : ∀ h', k.it h' it l (i + 1) → Heap.SameBut it s.heap h' → Q x { s with heap := h' }) : wpAny (model prog w) A (Builtin.SmallTypes.nextOf (.ref it)) Q E s := by
  cases k
  · exact wpAny_nextOf_list_item hit hl hx hQ
  · exact RZ.nextOf_tuple_item hit hl hx hQ
theorem Kd.fin {k : Kd} {it l : Addr} {i : Nat} {items} {Q : Value → Shared → Prop} (hh : A.handled = none) (hit : k.it s.heap it l i) (hl : k.sq s.heap l items) (hx : items[i]? = none)
    (hE : ∀ h' e, Heap.ExtBut it s.heap h' → (∃ o, h'.get? e = some o ∧ o.cls = .type "StopIteration") → E (.ref e) { s with heap := h' }) : wpAny (model prog w) A (Builtin.SmallTypes.nextOf (.ref it)) Q E s := by
  cases k
  · exact wpAny_nextOf_list_end hh hit hl hx hE
  · exact RZ.nextOf_tuple_end hh hit hl hx hE
/-- one item more of a zip over rows of any sorts -/
theorem item {k1 k2 : Kd} {z TI TO i1 i2 l1 l2 : Addr} {n1 n2 : Nat} {xs ys : Array Value} {x y a b : Value} {Q : Value → Shared → Prop} (D : ZipApart z TI TO i1 i2 l1 l2)
    (hz : IsZip s.heap z TI TO .none) (hTI : IsPair s.heap TI (.ref i1) (.ref i2)) (hTO : IsPair s.heap TO a b)
    (h1 : k1.it s.heap i1 l1 n1) (h2 : k2.it s.heap i2 l2 n2) (hl1 : k1.sq s.heap l1 xs) (hl2 : k2.sq s.heap l2 ys) (hx : xs[n1]? = some x) (hy : ys[n2]? = some y)
    (hQ : ∀ h', IsZip h' z TI TO (rawInt s.heap.objs.size) → IsPair h' TO x y → k1.it h' i1 l1 (n1 + 1) → k2.it h' i2 l2 (n2 + 1) → IsPair h' s.heap.objs.size x y → h'.objs.size = s.heap.objs.size + 1 →
      (∀ c o, c ≠ z → c ≠ TO → c ≠ i1 → c ≠ i2 → s.heap.get? c = some o → h'.get? c = some o) → Q (.ref s.heap.objs.size) { s with heap := h' }) :
    wpAny (model prog w) A (Builtin.«zip.__next__» ⟨[.ref z], []⟩) (fun fin s' => ∃ v, fin = .done (.ret v) ∧ Q v s') E s := by
  show wpAny _ _ (field (.ref z) 2 >>= _) _ _ _
  refine wpAny_bind (wpAny_field hz rfl (x := .bool false) rfl ?_)
  show wpAny _ _ (field (.ref z) 3 >>= _) _ _ _
  refine wpAny_bind (wpAny_field hz rfl (x := .ref TI) rfl (wpAny_bind (wpAny_seqItems hTI rfl ?_)))
  show wpAny _ _ (Builtin.SmallTypes.ownedTupleIsFree (.ref z) >>= _) _ _ _
  refine wpAny_bind ?_
  unfold Builtin.SmallTypes.ownedTupleIsFree
  refine wpAny_bind (wpAny_field hz rfl (x := .none) rfl (wpAny_pure ?_))
  rw [if_pos rfl]
  refine wpAny_bind (wpAny_rule (wpAny_bind (wpAny_field hz rfl (x := .ref TO) rfl (wpAny_bind (wpAny_setField_rec hz (by simp) fun ha za sa => ?_)))))
  replace za : IsZip ha z TI TO .ellipsis := za
  refine wpAny_bind ?_
  simp only [List.zipIdx_cons, List.zipIdx_nil, List.forIn_cons, List.forIn_nil]
  have ea := sa.extBut
  refine wpAny_bind (wpAny_bind (wpAny_onRaise ?_))
  show wpAny _ _ (Builtin.SmallTypes.nextOf (.ref i1) >>= _) _ _ _
  refine wpAny_bind (Kd.nxt (h1.itE ea D.i1z) (hl1.sqE ea D.l1z) hx fun hb ib sb => wpAny_pure ?_)
  have eb := sb.extBut
  have ob : IsPair hb TO a b := eb _ _ D.TOi1 (ea _ _ D.TOz hTO)
  refine wpAny_bind (wpAny_seqItems ob rfl (wpAny_bind (wpAny_updateSeq_pair ob fun hc oc sc => ?_)))
  replace oc : IsPair hc TO x b := oc
  have ec := sc.extBut
  refine wpAny_bind (wpAny_letGo (wpAny_pure ?_))
  refine wpAny_bind (wpAny_bind (wpAny_onRaise ?_))
  show wpAny _ _ (Builtin.SmallTypes.nextOf (.ref i2) >>= _) _ _ _
  refine wpAny_bind (Kd.nxt (((h2.itE ea D.i2z).itE eb D.i12.symm).itE ec D.TOi2.symm) (((hl2.sqE ea D.l2z).sqE eb D.l2i1).sqE ec D.l2TO) hy fun hd jd sd => wpAny_pure ?_)
  have ed := sd.extBut
  have od : IsPair hd TO x b := ed _ _ D.TOi2 oc
  refine wpAny_bind (wpAny_seqItems od rfl (wpAny_bind (wpAny_updateSeq_pair od fun he oe se => ?_)))
  replace oe : IsPair he TO x y := oe
  have ee := se.extBut
  refine wpAny_bind (wpAny_letGo (wpAny_pure (wpAny_pure (wpAny_bind (wpAny_seqItems oe rfl (wpAny_bind (wpAny_newTuple ?_)))))))
  have hsz : he.objs.size = s.heap.objs.size := by rw [se.1, sd.1, sc.1, sb.1, sa.1]
  have ze : IsZip he z TI TO .ellipsis := ee _ _ D.TOz.symm (ed _ _ D.i2z.symm (ec _ _ D.TOz.symm (eb _ _ D.i1z.symm za)))
  have hzlt := Heap.lt_size ze
  show wpAny _ _ (Builtin.SmallTypes.ownedTupleHandOut (.ref z) (.ref he.objs.size) >>= _) _ _ _
  refine wpAny_bind ?_
  unfold Builtin.SmallTypes.ownedTupleHandOut
  have zf : IsZip (he.push { cls := .type "tuple", data := .seq #[x, y] }) z TI TO .ellipsis := Heap.get?_push_of_some _ ze
  refine wpAny_bind (wpAny_setField_rec zf (by simp) fun hg zg sg => ?_)
  replace zg : IsZip hg z TI TO (rawInt he.objs.size) := zg
  refine wpAny_setField_rec zg (by simp) fun hk zk sk => ?_
  replace zk : IsZip hk z TI TO (rawInt he.objs.size) := zk
  have up : ∀ c o, c ≠ z → he.get? c = some o → hk.get? c = some o := fun c o c1 e => sk.extBut _ _ c1 (sg.extBut _ _ c1 (Heap.get?_push_of_some _ e))
  have tk : IsPair hk he.objs.size x y := sk.extBut _ _ (Nat.ne_of_gt hzlt) (sg.extBut _ _ (Nat.ne_of_gt hzlt) (Heap.get?_push_size _ rfl))
  have nk : hk.objs.size = he.objs.size + 1 := by rw [sk.1, sg.1, Heap.size_push]
  rw [hsz] at zk tk nk
  refine wpAny_pure ⟨_, rfl, ?_⟩
  show Q (.ref he.objs.size) _
  rw [hsz]
  exact hQ hk zk (up _ _ D.TOz oe) ((((ib.itE ec D.TOi1.symm).itE ed D.i12).itE ee D.TOi1.symm).itA fun o e => up _ o D.i1z e) ((jd.itE ee D.TOi2.symm).itA fun o e => up _ o D.i2z e) tk nk
    fun c o c1 c2 c3 c4 e => up c o c1 (ee _ _ c2 (ed _ _ c4 (ec _ _ c2 (eb _ _ c3 (ea _ _ c1 e)))))
/-- the end of a zip over rows of any sorts -/
theorem fin {k1 k2 : Kd} {z TI TO i1 i2 l1 l2 : Addr} {n1 n2 : Nat} {xs ys : Array Value} {a b : Value} {Q : Fin → Shared → Prop} (hh : A.handled = none) (D : ZipApart z TI TO i1 i2 l1 l2)
    (hz : IsZip s.heap z TI TO .none) (hTI : IsPair s.heap TI (.ref i1) (.ref i2)) (hTO : IsPair s.heap TO a b)
    (h1 : k1.it s.heap i1 l1 n1) (h2 : k2.it s.heap i2 l2 n2) (hl1 : k1.sq s.heap l1 xs) (hl2 : k2.sq s.heap l2 ys) (hend : xs[n1]? = none ∨ ys[n2]? = none)
    (hE : ∀ h' e, (∀ c o, c ≠ z → c ≠ TO → c ≠ i1 → c ≠ i2 → s.heap.get? c = some o → h'.get? c = some o) → (∃ o, h'.get? e = some o ∧ o.cls = .type "StopIteration") → E (.ref e) { s with heap := h' }) :
    wpAny (model prog w) A (Builtin.«zip.__next__» ⟨[.ref z], []⟩) Q E s := by
  show wpAny _ _ (field (.ref z) 2 >>= _) _ _ _
  refine wpAny_bind (wpAny_field hz rfl (x := .bool false) rfl ?_)
  show wpAny _ _ (field (.ref z) 3 >>= _) _ _ _
  refine wpAny_bind (wpAny_field hz rfl (x := .ref TI) rfl (wpAny_bind (wpAny_seqItems hTI rfl ?_)))
  show wpAny _ _ (Builtin.SmallTypes.ownedTupleIsFree (.ref z) >>= _) _ _ _
  refine wpAny_bind ?_
  unfold Builtin.SmallTypes.ownedTupleIsFree
  refine wpAny_bind (wpAny_field hz rfl (x := .none) rfl (wpAny_pure ?_))
  rw [if_pos rfl]
  refine wpAny_bind (wpAny_rule (wpAny_bind (wpAny_field hz rfl (x := .ref TO) rfl (wpAny_bind (wpAny_setField_rec hz (by simp) fun ha za sa => ?_)))))
  replace za : IsZip ha z TI TO .ellipsis := za
  refine wpAny_bind ?_
  simp only [List.zipIdx_cons, List.zipIdx_nil, List.forIn_cons, List.forIn_nil]
  have ea := sa.extBut
  refine wpAny_bind (wpAny_bind (wpAny_onRaise ?_))
  show wpAny _ _ (Builtin.SmallTypes.nextOf (.ref i1) >>= _) _ _ _
  -- an error object is none of the zip's own
  have off : ∀ {g : Heap} {e : Addr} {o : Obj}, IsZip g z TI TO .ellipsis → g.get? e = some o → o.cls = .type "StopIteration" → e ≠ z := fun {g e o} gz ge gc q => by
    subst q
    rw [gz] at ge
    cases ge
    simp at gc
  cases hx : xs[n1]? with
  | none =>
    refine wpAny_bind (Kd.fin hh (h1.itE ea D.i1z) (hl1.sqE ea D.l1z) hx fun hb e eb ⟨oe, ge, gc⟩ => ?_)
    have zb : IsZip hb z TI TO .ellipsis := eb _ _ D.i1z.symm za
    exact wpAny_setField_rec zb (by simp) fun hc _ sc => hE hc e (fun c o c1 _ c3 _ q => sc.extBut _ _ c1 (eb _ _ c3 (ea _ _ c1 q))) ⟨oe, sc.extBut _ _ (off zb ge gc) ge, gc⟩
  | some x =>
    have hy : ys[n2]? = none := by
      rcases hend with h | h
      · rw [hx] at h; cases h
      · exact h
    refine wpAny_bind (Kd.nxt (h1.itE ea D.i1z) (hl1.sqE ea D.l1z) hx fun hb ib sb => wpAny_pure ?_)
    have eb := sb.extBut
    have ob : IsPair hb TO a b := eb _ _ D.TOi1 (ea _ _ D.TOz hTO)
    refine wpAny_bind (wpAny_seqItems ob rfl (wpAny_bind (wpAny_updateSeq_pair ob fun hc oc sc => ?_)))
    have ec := sc.extBut
    refine wpAny_bind (wpAny_letGo (wpAny_pure ?_))
    refine wpAny_bind (wpAny_bind (wpAny_onRaise ?_))
    show wpAny _ _ (Builtin.SmallTypes.nextOf (.ref i2) >>= _) _ _ _
    refine wpAny_bind (Kd.fin hh (((h2.itE ea D.i2z).itE eb D.i12.symm).itE ec D.TOi2.symm) (((hl2.sqE ea D.l2z).sqE eb D.l2i1).sqE ec D.l2TO) hy fun hd e ed ⟨oe, ge, gc⟩ => ?_)
    have zd : IsZip hd z TI TO .ellipsis := ed _ _ D.i2z.symm (ec _ _ D.TOz.symm (eb _ _ D.i1z.symm za))
    exact wpAny_setField_rec zd (by simp) fun hk _ sk => hE hk e (fun c o c1 c2 c3 c4 q => sk.extBut _ _ c1 (ed _ _ c4 (ec _ _ c2 (eb _ _ c3 (ea _ _ c1 q))))) ⟨oe, sk.extBut _ _ (off zd ge gc) ge, gc⟩
theorem next {k1 k2 : Kd} {z TI TO i1 i2 l1 l2 : Addr} {n1 n2 : Nat} {xs ys : Array Value} {x y a b : Value} {Q : Option Value → Shared → Prop} (D : ZipApart z TI TO i1 i2 l1 l2)
    (hz : IsZip s.heap z TI TO .none) (hTI : IsPair s.heap TI (.ref i1) (.ref i2)) (hTO : IsPair s.heap TO a b)
    (h1 : k1.it s.heap i1 l1 n1) (h2 : k2.it s.heap i2 l2 n2) (hl1 : k1.sq s.heap l1 xs) (hl2 : k2.sq s.heap l2 ys) (hx : xs[n1]? = some x) (hy : ys[n2]? = some y)
    (hQ : ∀ h', IsZip h' z TI TO (rawInt s.heap.objs.size) → IsPair h' TO x y → k1.it h' i1 l1 (n1 + 1) → k2.it h' i2 l2 (n2 + 1) → IsPair h' s.heap.objs.size x y → h'.objs.size = s.heap.objs.size + 1 →
      (∀ c o, c ≠ z → c ≠ TO → c ≠ i1 → c ≠ i2 → s.heap.get? c = some o → h'.get? c = some o) → Q (some (.ref s.heap.objs.size)) { s with heap := h' }) :
    wpAny (model prog w) A (pyNext (.ref z)) Q E s := by
  have hT : s.TypeIs (.ref z) "zip" := ⟨_, hz, rfl⟩
  unfold pyNext
  refine wpAny_bind (wpAny_attempt (wpAny_callSpecial?_slot (name := Str.ofString "__next__") hT F.slot_zip_next (wpAny_call_entry F.slot_zip_next hT F.entry_zip_next ?_ (F.args_zip_next_1 _))))
  exact item D hz hTI hTO h1 h2 hl1 hl2 hx hy fun h' a1 a2 a3 a4 a5 a6 a7 => wpAny_pure (hQ h' a1 a2 a3 a4 a5 a6 a7)
theorem last {k1 k2 : Kd} {z TI TO i1 i2 l1 l2 : Addr} {n1 n2 : Nat} {xs ys : Array Value} {a b : Value} {Q : Option Value → Shared → Prop} (hh : A.handled = none) (D : ZipApart z TI TO i1 i2 l1 l2)
    (hz : IsZip s.heap z TI TO .none) (hTI : IsPair s.heap TI (.ref i1) (.ref i2)) (hTO : IsPair s.heap TO a b)
    (h1 : k1.it s.heap i1 l1 n1) (h2 : k2.it s.heap i2 l2 n2) (hl1 : k1.sq s.heap l1 xs) (hl2 : k2.sq s.heap l2 ys) (hend : xs[n1]? = none ∨ ys[n2]? = none)
    (hQ : ∀ h', (∀ c o, c ≠ z → c ≠ TO → c ≠ i1 → c ≠ i2 → s.heap.get? c = some o → h'.get? c = some o) → Q none { s with heap := h' }) : wpAny (model prog w) A (pyNext (.ref z)) Q E s := by
  have hT : s.TypeIs (.ref z) "zip" := ⟨_, hz, rfl⟩
  unfold pyNext
  refine wpAny_bind (wpAny_attempt (wpAny_callSpecial?_slot (name := Str.ofString "__next__") hT F.slot_zip_next (wpAny_call_entry F.slot_zip_next hT F.entry_zip_next ?_ (F.args_zip_next_1 _))))
  refine fin hh D hz hTI hTO h1 h2 hl1 hl2 hend fun h' e hk ⟨o, ho, hc⟩ => ?_
  exact wpAny_bind (wpAny_isInstance (T := "StopIteration") (b := true) ⟨o, ho, hc⟩ isSubtype_stop (wpAny_pure (hQ _ hk)))
end
def Kd.io (k : Kd) (a : Addr) : Obj := { cls := .type k.nm, data := .fields #[.ref a, .int 0 0] }
abbrev g1 (k1 : Kd) (h : Heap) (a : Addr) : Heap := h.push (k1.io a)
abbrev g2 (k1 k2 : Kd) (h : Heap) (a b : Addr) : Heap := (g1 k1 h a).push (k2.io b)
abbrev g3 (k1 k2 : Kd) (h : Heap) (a b : Addr) : Heap := (g2 k1 k2 h a b).push { cls := .type "tuple", data := .seq #[.ref h.objs.size, .ref (g1 k1 h a).objs.size] }
abbrev g4 (k1 k2 : Kd) (h : Heap) (a b : Addr) : Heap := (g3 k1 k2 h a b).push { cls := .type "tuple", data := .seq #[.none, .none] }
abbrev g5 (k1 k2 : Kd) (h : Heap) (a b : Addr) : Heap := (g4 k1 k2 h a b).push { cls := .type "zip", data := .fields #[.none, .bool false, .bool false, .ref (g2 k1 k2 h a b).objs.size, .ref (g3 k1 k2 h a b).objs.size] }
theorem born (k1 k2 : Kd) (a b : Addr) (xs ys : Array Value) :
    Meets (Builtin.«zip.__new__» ⟨[.type "zip", .ref a, .ref b], []⟩) (fun _ R s => k1.sq s.heap a xs ∧ k2.sq s.heap b ys ∧
      R (.ok (.ret (.ref (g4 k1 k2 s.heap a b).objs.size))) { s with heap := g5 k1 k2 s.heap a b }) :=
  .of_wp fun prog w A R s h => by
    obtain ⟨hp, g, d, tk, os⟩ := s
    obtain ⟨hl1, hl2, h⟩ := h
    have hsub := sub_zip
    cases k1 <;> cases k2
    · have u1 : Heap.IsList (Shared.heap ⟨hp, g, d, tk, os⟩) a xs := hl1
      have u2 : Heap.IsList (Shared.heap ⟨hp.push { cls := .type "list_iterator", data := .fields #[.ref a, .int 0 0] }, g, d, tk, os⟩) b ys := Heap.IsList.push hl2 _
      wp_walk using wpAny_pyIter_list u1, wpAny_pyIter_list u2
      exact ⟨_, rfl, h⟩
    · have u1 : Heap.IsList (Shared.heap ⟨hp, g, d, tk, os⟩) a xs := hl1
      have u2 : Heap.IsTuple (Shared.heap ⟨hp.push { cls := .type "list_iterator", data := .fields #[.ref a, .int 0 0] }, g, d, tk, os⟩) b ys := Heap.IsTuple.push hl2 _
      wp_walk using wpAny_pyIter_list u1, wpAny_pyIter_tuple u2
      exact ⟨_, rfl, h⟩
    · have u1 : Heap.IsTuple (Shared.heap ⟨hp, g, d, tk, os⟩) a xs := hl1
      have u2 : Heap.IsList (Shared.heap ⟨hp.push { cls := .type "tuple_iterator", data := .fields #[.ref a, .int 0 0] }, g, d, tk, os⟩) b ys := Heap.IsList.push hl2 _
      wp_walk using wpAny_pyIter_tuple u1, wpAny_pyIter_list u2
      exact ⟨_, rfl, h⟩
    · have u1 : Heap.IsTuple (Shared.heap ⟨hp, g, d, tk, os⟩) a xs := hl1
      have u2 : Heap.IsTuple (Shared.heap ⟨hp.push { cls := .type "tuple_iterator", data := .fields #[.ref a, .int 0 0] }, g, d, tk, os⟩) b ys := Heap.IsTuple.push hl2 _
      wp_walk using wpAny_pyIter_tuple u1, wpAny_pyIter_tuple u2
      exact ⟨_, rfl, h⟩
theorem Kd.it0 {k : Kd} {h : Heap} {i a : Addr} (e : h.get? i = some (k.io a)) : k.it h i a 0 := by
  cases k
  · exact ⟨_, e, rfl, rfl⟩
  · exact ⟨_, e, rfl, rfl⟩
theorem made {prog : Program} {w : World} {A : Around} {E : Value → Shared → Prop} {s : Shared} {k1 k2 : Kd} {a b : Addr} {xs ys : Array Value} {Q : Value → Shared → Prop} (hl1 : k1.sq s.heap a xs) (hl2 : k2.sq s.heap b ys)
    (h : ∀ h', IsZip h' (s.heap.objs.size + 4) (s.heap.objs.size + 2) (s.heap.objs.size + 3) .none → IsPair h' (s.heap.objs.size + 2) (.ref s.heap.objs.size) (.ref (s.heap.objs.size + 1)) →
      IsPair h' (s.heap.objs.size + 3) .none .none → k1.it h' s.heap.objs.size a 0 → k2.it h' (s.heap.objs.size + 1) b 0 →
      (∀ c o, s.heap.get? c = some o → h'.get? c = some o) → Q (.ref (s.heap.objs.size + 4)) { s with heap := h' }) :
    wpAny (model prog w) A (call (.type "zip") [.ref a, .ref b]) Q E s := by
  refine callType_new F.called_zip (by decide) (F.typeCall_zip_2 _ _) (F.newCall_zip_2 _ _) (fun obj => F.args_object_init_3 obj _ _) F.entry_zip_new (born k1 k2 a b xs ys) ⟨hl1, hl2, ?_⟩
  have n1 : (g1 k1 s.heap a).objs.size = s.heap.objs.size + 1 := Heap.size_push ..
  have n2 : (g2 k1 k2 s.heap a b).objs.size = s.heap.objs.size + 2 := by rw [Heap.size_push, n1]
  have n3 : (g3 k1 k2 s.heap a b).objs.size = s.heap.objs.size + 3 := by rw [Heap.size_push, n2]
  have n4 : (g4 k1 k2 s.heap a b).objs.size = s.heap.objs.size + 4 := by rw [Heap.size_push, n3]
  have up : ∀ {g : Heap} {c : Addr} {o : Obj} (p : Obj), g.get? c = some o → (g.push p).get? c = some o := fun p e => Heap.get?_push_of_some _ e
  have e5 : (g5 k1 k2 s.heap a b).get? (g4 k1 k2 s.heap a b).objs.size = some _ := Heap.get?_push_size _ rfl
  have e4 : (g5 k1 k2 s.heap a b).get? (g3 k1 k2 s.heap a b).objs.size = some _ := up _ (Heap.get?_push_size _ rfl)
  have e3 : (g5 k1 k2 s.heap a b).get? (g2 k1 k2 s.heap a b).objs.size = some _ := up _ (up _ (Heap.get?_push_size _ rfl))
  have e2 : (g5 k1 k2 s.heap a b).get? (g1 k1 s.heap a).objs.size = some (k2.io b) := up _ (up _ (up _ (Heap.get?_push_size _ (by cases k2 <;> rfl))))
  have e1 : (g5 k1 k2 s.heap a b).get? s.heap.objs.size = some (k1.io a) := up _ (up _ (up _ (up _ (Heap.get?_push_size _ (by cases k1 <;> rfl)))))
  show _ ∧ _
  rw [n2, n3, n4] at e5
  rw [n1, n2] at e3
  rw [n3] at e4
  rw [n1] at e2
  rw [n4]
  exact ⟨⟨_, e5, rfl⟩, h _ e5 e3 e4 (Kd.it0 e1) (Kd.it0 e2) fun c o x => up _ (up _ (up _ (up _ (up _ x))))⟩
/-- the rows at a and b as they stand at each turn, the items in new pairs -/
def It2 (k1 k2 : Kd) (K : PySem.W.Frag) (a b : Addr) : It :=
  ⟨fun i H => ∃ (xs ys : List V) (x y : V), k1.vs K H a xs ∧ k2.vs K H b ys ∧ xs[i]? = some x ∧ ys[i]? = some y,
    fun i H v H' => ∃ T x y, v = .ref T ∧ H T = none ∧ H' = upd H T (.tup [x, y]) ∧ (∀ xs, k1.vs K H a xs → xs[i]? = some x) ∧ ∀ ys, k2.vs K H b ys → ys[i]? = some y,
    fun i H => ∃ xs ys : List V, k1.vs K H a xs ∧ k2.vs K H b ys ∧ (xs.length ≤ i ∨ ys.length ≤ i)⟩
theorem turn {P : Program} {w : World} {K : PySem.W.Frag} {elts : List Expr} {kk : Nat} {tpos : Pos} {k1 k2 : Kd} {a b z TI TO i1 i2 : Addr} (D : ZipApart z TI TO i1 i2 a b) :
    Turn P w K (.Tuple elts kk tpos) (It2 k1 k2 K a b) [z, TI, TO, i1, i2] z (fun i h => IsZip h z TI TO .none ∧ IsPair h TI (.ref i1) (.ref i2) ∧ (∃ x y, IsPair h TO x y) ∧ k1.it h i1 a i ∧ k2.it h i2 b i) where
  mem := by simp
  obj := fun i h st c hc => by
    obtain ⟨hz, hTI, ⟨x, y, hTO⟩, h1, h2⟩ := st
    simp only [List.mem_cons, List.not_mem_nil, or_false] at hc
    rcases hc with rfl | rfl | rfl | rfl | rfl
    · exact ⟨_, hz, fun v q => nomatch q⟩
    · exact ⟨_, hTI, fun v q => nomatch q⟩
    · exact ⟨_, hTO, fun v q => nomatch q⟩
    · exact h1.itO
    · exact h2.itO
  keep := fun i h h' st k => by
    obtain ⟨hz, hTI, ⟨x, y, hTO⟩, h1, h2⟩ := st
    exact ⟨k z (by simp) _ hz, k TI (by simp) _ hTI, ⟨x, y, k TO (by simp) _ hTO⟩, h1.itA fun o q => k i1 (by simp) o q, h2.itA fun o q => k i2 (by simp) o q⟩
  item := by
    intro X hP hw hK hc i pins s σ H E I hf st hg
    subst hP hw hK
    obtain ⟨hz, hTI, ⟨x0, y0, hTO⟩, h1, h2⟩ := st
    obtain ⟨xs, ys, x, y, hqx, hqy, hx, hy⟩ := hg
    obtain ⟨its, rv, p, _⟩ := Kd.row I hqx
    obtain ⟨its2, rv2, p2, _⟩ := Kd.row I hqy
    obtain ⟨u, hu, ru⟩ := rv.get hx
    obtain ⟨u2, hu2, ru2⟩ := rv2.get hy
    have hzl : z < s.heap.objs.size := Heap.lt_size hz
    refine next D hz hTI hTO h1 h2 p p2 (x := u) (y := u2) (by simpa using hu) (by simpa using hu2) fun h' z' TO' h1' h2' hT hsz hk => ⟨_, rfl, wpAny_letOwnedTupleGo_zip (s := { s with heap := h' }) z' fun h'' z'' sb => ?_⟩
    have hT2 : h''.get? s.heap.objs.size = some { cls := .type "tuple", data := .seq #[u, u2] } := (sb.2 _ (Nat.ne_of_gt hzl)).trans hT
    have new : ObjOk X.prog X.w (upd H s.heap.objs.size (.tup [x, y])) h'' s.heap.objs.size (.tup [x, y]) :=
      ⟨by show 2 ≤ sizeLine; decide, [u, u2], .cons ru (.cons ru2 .nil), ⟨_, hT2, rfl, _, rfl⟩⟩
    have I1 : Inv X pins σ (upd H s.heap.objs.size (.tup [x, y])) { s with heap := h'' } :=
      I.turnedNew (t' := s.toks) (ch := [z, TI, TO, i1, i2]) (fun c o hb q => by
        simp only [List.mem_cons, List.not_mem_nil, or_false, not_or] at hb
        exact (sb.2 c hb.1).trans (hk c o hb.1 hb.2.2.1 hb.2.2.2.1 hb.2.2.2.2 q)) hf (Nat.le_refl _) new
    refine ⟨.ref s.heap.objs.size, _, I1, rfl, ⟨_, x, y, rfl, I.hok.fresh (Nat.le_refl _), rfl, fun l hl => by rw [Kd.inj I hl hqx]; exact hx, fun l hl => by rw [Kd.inj I hl hqy]; exact hy⟩, ⟨z'', (sb.2 _ D.TIz).trans (hk _ _ D.TIz D.TITO D.TIi1 D.TIi2 hTI), ⟨u, u2, (sb.2 _ D.TOz).trans TO'⟩, h1'.itA fun o q => (sb.2 _ D.i1z).trans q, h2'.itA fun o q => (sb.2 _ D.i2z).trans q⟩, fun c hcm => ?_⟩
    have hlt : c < s.heap.objs.size := by
      simp only [List.mem_cons, List.not_mem_nil, or_false] at hcm
      rcases hcm with rfl | rfl | rfl | rfl | rfl
      · exact hzl
      · exact Heap.lt_size hTI
      · exact Heap.lt_size hTO
      · obtain ⟨_, e1, _⟩ := h1.itO; exact Heap.lt_size e1
      · obtain ⟨_, e2, _⟩ := h2.itO; exact Heap.lt_size e2
    rw [upd_ne (Nat.ne_of_lt hlt)]
    exact (hf c hcm).1
  done := by
    intro X hP hw hK hc i pins s σ H E I hf st hg
    subst hP hw hK
    obtain ⟨hz, hTI, ⟨x0, y0, hTO⟩, h1, h2⟩ := st
    obtain ⟨xs, ys, hqx, hqy, hend⟩ := hg
    obtain ⟨its, rv, p, _⟩ := Kd.row I hqx
    obtain ⟨its2, rv2, p2, _⟩ := Kd.row I hqy
    have l1 := rv.length
    have l2 := rv2.length
    have he : its.toArray[i]? = none ∨ its2.toArray[i]? = none := by
      rcases hend with q | q
      · exact .inl (by simp; omega)
      · exact .inr (by simp; omega)
    refine last (I.ok.hd hc) D hz hTI hTO h1 h2 p p2 he fun h' hk => ⟨rfl, I.turnedL (t' := s.toks) (ch := [z, TI, TO, i1, i2]) (fun c o hb q => ?_) hf⟩
    simp only [List.mem_cons, List.not_mem_nil, or_false, not_or] at hb
    exact hk c o hb.1 hb.2.2.1 hb.2.2.2.1 hb.2.2.2.2 q
  self := fun A i s Q E st h => wpAny_pyIter_zip st.1 h
def iZip2 (K : PySem.W.Frag) (ta : TA) : TI := fun σ H R => ta σ H fun vs H1 => ∃ (k1 k2 : Kd) (a b : Addr) (xs ys : List V), vs = [.ref a, .ref b] ∧ k1.vs K H1 a xs ∧ k2.vs K H1 b ys ∧ R (It2 k1 k2 K a b) H1
theorem pi_zip2 {X : Cx} {e e2 : Expr} {ta : TA} {p pos tpos : Pos} {elts : List Expr} {kk : Nat} (hg : Gl X "zip") (hm : X.mg "zip" = none) (ha : PA X [e, e2] ta)
    (hs : starEach [e, e2] X.env = (false, eval e X.env) :: starEach [e2] X.env := by rfl) (hpl : (backTo pos (starEach [e2] X.env)).any (·.1) = false := by rfl) :
    PI X (.Tuple elts kk tpos) (.Call (.Name "zip" p) [e, e2] [] pos) (iZip2 X.K ta) := by
  refine ⟨fun pins s σ H R I h => Call_ (ld_blt I hg hm PyProof.Rows.boot_zip (PyProof.Rows.callWith_type1 (thn (ha.run pos pins s σ H _ I h) fun us s1 ⟨vs, H1, I1, r1, q1⟩ => ?_) hs hpl))⟩
  obtain ⟨k1, k2, a, b, xs, ys, rfl, hqx, hqy, q⟩ := q1
  cases r1 with
  | cons r rr =>
    cases rr with
    | cons r' rr =>
      cases rr
      cases r
      cases r'
      obtain ⟨its, rv, p1, la⟩ := Kd.row I1 hqx
      obtain ⟨its2, rv2, p2, lb⟩ := Kd.row I1 hqy
      refine made p1 p2 fun h' hz hTI hTO h1 h2 hk => wpAny_pyIter_zip hz ?_
      refine ⟨s1.heap.objs.size + 4, [s1.heap.objs.size + 4, s1.heap.objs.size + 2, s1.heap.objs.size + 3, s1.heap.objs.size, s1.heap.objs.size + 1], _, _, H1, rfl, I1.kept (t' := s1.toks) hk, turn (PySem.W.ktu_apart s1.heap.objs.size a b la lb), ⟨hz, hTI, ⟨_, _, hTO⟩, h1, h2⟩, fun c hcm => ?_, q⟩
      have hle : s1.heap.objs.size ≤ c := by
        simp only [List.mem_cons, List.not_mem_nil, or_false] at hcm
        rcases hcm with rfl | rfl | rfl | rfl | rfl
        all_goals first | exact Nat.le_add_right _ _ | exact Nat.le_refl _
      exact I1.fpOk hle (I1.hok.fresh hle)
/-- a comprehension's loop over two rows of one length -/
theorem for_zip2 {K : PySem.W.Frag} {k1 k2 : Kd} {a b : Addr} {xs ys : List V} {g : TG} {tb : TS} {D : Ends} {σ : L2.St} {H : Hp} (hl : xs.length = ys.length) (Pv : Nat → L2.St → Hp → Prop) (h0 : Pv 0 σ H) (hq : ∀ i σ H, Pv i σ H → k1.vs K H a xs ∧ k2.vs K H b ys)
    (hs : ∀ (i : Nat) (x y : V) (T : Addr) (σ : L2.St) (H : Hp), xs[i]? = some x → ys[i]? = some y → Pv i σ H → H T = none → g (.ref T) σ (upd H T (.tup [x, y])) fun σ2 H2 => tb { D with nx := Pv (i + 1), ct := Pv (i + 1), bk := D.nx } σ2 H2) (hd : ∀ σ H, Pv xs.length σ H → D.nx σ H) :
    ∃ W : Nat → Nat → L2.St → Hp → Prop, (∃ m, W 0 m σ H) ∧ ∀ i m σ H, W i m σ H →
      ((It2 k1 k2 K a b).stop i H ∧ D.nx σ H) ∨ ((It2 k1 k2 K a b).go i H ∧ ∃ N : L2.St → Hp → Prop, (∀ σ' H', N σ' H' → ∃ m', m' < m ∧ W (i + 1) m' σ' H') ∧ ∀ v H', (It2 k1 k2 K a b).yld i H v H' → g v σ H' fun σ2 H2 => tb { D with nx := N, ct := N, bk := D.nx } σ2 H2) := by
  refine ⟨fun i m σ H => m = xs.length - i ∧ i ≤ xs.length ∧ Pv i σ H, ⟨xs.length, rfl, Nat.zero_le _, h0⟩, ?_⟩
  rintro i m σ H ⟨rfl, hi, p⟩
  obtain ⟨qx, qy⟩ := hq i σ H p
  rcases Nat.lt_or_ge i xs.length with hlt | hge
  · have hx : xs[i]? = some xs[i] := List.getElem?_eq_getElem hlt
    have hy : ys[i]? = some (ys[i]'(by omega)) := List.getElem?_eq_getElem (by omega)
    refine .inr ⟨⟨xs, ys, _, _, qx, qy, hx, hy⟩, Pv (i + 1), fun σ' H' p' => ⟨xs.length - (i + 1), by omega, rfl, hlt, p'⟩, ?_⟩
    rintro v H' ⟨T, x', y', rfl, hT, rfl, f1, f2⟩
    exact hs i x' y' T σ H (f1 xs qx) (f2 ys qy) p hT
  · obtain rfl : i = xs.length := by omega
    exact .inl ⟨⟨xs, ys, qx, qy, Or.inl (Nat.le_refl _)⟩, hd σ H p⟩
end ZM
namespace OS
open PySem L2
structure Df (K : PySem.W.Frag) (mg : Str → Option Value) (x : Str) (f : Addr) : Prop where
  mg : mg x = some (.ref f)
  kp : PySem.W.keepIn K (.ref f) = true
theorem sameUpd {H H' : Hp} {p : Addr} {o : HO} (s : Same H H') (h : H p = none) : Same H (L2.upd H' p o) := fun b u e => by
  rw [upd_ne (ne_of_none e h)]
  exact s b u e
def spCd : Sp := fun vs H Q _ => ∃ (a b : Int), vs = [.int a, .int b] ∧ Q (.int ((a.natAbs.gcd b.natAbs : Nat) : Int)) H
theorem seqT {K : PySem.W.Frag} {H H' : Hp} {a : Addr} {xs : List V} (s : Same H H') (h : SqT K H a xs) : SqT K H' a xs := h.elim (fun r => .inl (r.elim (fun r => .inl (s _ _ r)) fun ⟨o, r⟩ => .inr ⟨o, s _ _ r⟩)) .inr
/-- a list or a tuple of integers -/
def SqI (K : PySem.W.Frag) (H : Hp) (a : Addr) (ns : List Int) : Prop := SqL K H a (ns.map V.int) ∨ SqT K H a (ns.map V.int)
theorem SqI.same {K : PySem.W.Frag} {H H' : Hp} {a : Addr} {ns : List Int} (h : SqI K H a ns) (s : Same H H') : SqI K H' a ns := h.elim (fun h => .inl (s.seq h)) fun h => .inr (seqT s h)
def spPs (K : PySem.W.Frag) : Sp := fun vs H Q _ => ∃ (a : Addr) (ns : List Int), vs = [.ref a] ∧ SqI K H a ns ∧ ns.length ≤ 6 ∧
  ∀ (D : Addr) (H' : Hp), H D = none → Same H H' → H' D = some (.lst ((tabT ns ns.length).map V.int)) → Q (.ref D) H'
def spSh (K : PySem.W.Frag) : Sp := fun vs H Q _ => ∃ (a : Addr) (b : Int) (ss : List Int), vs = [.int b, .ref a] ∧ SqL K H a (ss.map V.int) ∧ Q (.bl (ss.any fun s => decide (1 < s.natAbs.gcd b.natAbs))) H
def spLb (K : PySem.W.Frag) (C : Addr) : Sp := fun vs H Q E => ∃ (a : Addr) (ns : List Int), vs = [.ref a] ∧ SqI K H a ns ∧ ns.length ≤ 6 ∧ (∀ n ∈ ns, n.natAbs ≤ 2 ^ 114) ∧
  (0 ∉ tabT ns ns.length → ∀ (b : Nat) (H' : Hp), isB (tabT ns ns.length) b → b < 5500 → Same H H' → Q (.int b) H') ∧
  (0 ∈ tabT ns ns.length → ∀ (dd T : Addr) (H' : Hp), H dd = none → H' dd = some (.xd [("numbers", .ref T)]) → SqT K H' T (ns.map V.int) → Same H H' → E (.ref C) (some dd) H')
def spPr : Sp := fun vs H Q _ => ∃ (n : Int), vs = [.int n] ∧ n < 2 ^ 60 ∧ (∀ b : Bool, (b = true ↔ (0 ≤ n ∧ isP n.toNat)) → Q (.bl b) H)
theorem inV_zero (ns : List Int) : inV (.int 0) (ns.map V.int) = decide (0 ∈ ns) := by
  induction ns with
  | nil => rfl
  | cons n ns ih =>
    show (eqV (V.int n) (V.int 0) || inV (V.int 0) (ns.map V.int)) = _
    rw [ih]
    show ((n == 0) || decide (0 ∈ ns)) = _
    by_cases e : n = 0
    · subst e; simp
    · have e2 : ¬ (0 : Int) = n := fun z => e z.symm
      simp [e, e2]
theorem flat_ints (ns : List Int) : ∀ x ∈ ns.map V.int, flatV x = true := by
  intro x hx
  obtain ⟨n, _, rfl⟩ := List.mem_map.mp hx
  rfl
theorem shares_of {ss : List Int} {b : Int} (h : (ss.any fun s => decide (1 < s.natAbs.gcd b.natAbs)) = true) : ∃ s ∈ ss, s.natAbs.gcd b.natAbs ≠ 1 := by
  obtain ⟨s, hs, h1⟩ := List.any_eq_true.mp h
  have := of_decide_eq_true h1
  exact ⟨s, hs, by omega⟩
theorem shares_no {ss : List Int} {b : Int} (hb : 2 ≤ b) (h : ¬ (ss.any fun s => decide (1 < s.natAbs.gcd b.natAbs)) = true) : ∀ s ∈ ss, s.natAbs.gcd b.natAbs = 1 := by
  intro s hs
  have hp : 0 < s.natAbs.gcd b.natAbs := Nat.gcd_pos_of_pos_right _ (by omega)
  refine Classical.byContradiction fun q => h (List.any_eq_true.mpr ⟨s, hs, decide_eq_true (by omega)⟩)
section
variable {P : Program} {w : World} {K : PySem.W.Frag} {mg : Str → Option Value} {base : Heap}
theorem scCd : FnScope ["first", "second"] ["first", "second"] (defScope s_common_divisor) := ⟨rfl, rfl, rfl, by decide +kernel, rfl, by decide +kernel, by decide +kernel⟩
theorem ok_cd {f : Addr} {fd : FuncData} (F : Fun K "common_divisor" "common_divisor" s_common_divisor f fd) (GC : mg "gcd" = some (.builtin "math.gcd")) : FnOk P w K mg base CX0 1 f fd ["first", "second"] spCd := by
  refine F.ok scCd (fun vs H Q E h => ?_) (fun cdv A outer s H vs Q E hr h => ?_)
  · obtain ⟨n, d, rfl, _⟩ := h
    rfl
  · obtain ⟨n, d, rfl, k⟩ := h
    refine ⟨_, pss_one (ps_ret (pe_callBfun cr_gcd rfl GC (pa_cons (pv 0) (pa_cons (pv 1) pa_nil)))), ?_⟩
    exact ⟨_, rfl, _, rfl, n, d, rfl, k⟩
abbrev nPs : List Str := ["numbers", "sums", "number", "total"]
theorem scPs : FnScope nPs ["numbers"] (defScope s_partial_sums) := ⟨rfl, rfl, rfl, by decide +kernel, rfl, by decide +kernel, by decide +kernel⟩
theorem ps_bodyR {ns : List Int} {i : Nat} (h : i < ns.length) : ns[i]? = some (ns.getD i 0) := by
  rw [List.getD_eq_getElem?_getD, List.getElem?_eq_getElem h]
  rfl
theorem ok_ps {f : Addr} {fd : FuncData} (F : Fun K "partial_sums" "partial_sums" s_partial_sums f fd) : FnOk P w K mg base CX0 1 f fd ["numbers"] (spPs K) := by
  refine F.ok scPs (fun vs H Q E h => ?_) (fun cdv A outer s H vs Q E hr h => ?_)
  · obtain ⟨a, ns, rfl, _⟩ := h
    rfl
  · obtain ⟨a, ns, rfl, hS, hl, k⟩ := h
    rcases hS with hS | hS
    · refine ⟨_, pss_cons (ps_set (i := 1) scPs.nd rfl (Or.inl rfl) (pe_lst pa_nil))
        (pss_cons (ps_for PassesOwn.never rfl (pi_list (pv 0)) (pg_name (i := 2) scPs.nd rfl (Or.inr rfl))
          (pss_one (ps_set (i := 1) scPs.nd rfl (Or.inl rfl) (pe_op op_cat (pe_op op_cat (pv 1) (pe_lst (pa_cons (pv 2) pa_nil)))
            (pe_lc (own := [("total", 3)]) (g := gName 3) (tt := tYes) rfl scPs.nd (pi_list (pv 1)) (blkOk_by (own := [("total", 3)]) (N := nPs) (sc := defScope s_partial_sums) (by decide +kernel))
              (fun _ _ _ _ _ => pg_name (i := 3) scPs.nd rfl (Or.inl rfl)) (fun _ _ _ _ _ => pts_nil) (fun _ _ _ _ _ => pe_op op_add (pv 3) (pv 2)))))))
        (pss_one (ps_ret (pv 1)))), ?_⟩
      refine ⟨by show 0 ≤ sizeLine; decide, fun l0 hl0 => ?_⟩
      refine ⟨_, rfl, a, rfl, ⟨_, Same.seq (sameUpd (Same.refl _) hl0) hS⟩, for_list (K := K) (a := a) (xs := ns.map V.int) (fun i σ H' => Same H H' ∧ ∃ (D : Addr) (v : Option V), H D = none ∧ H' D = some (.lst ((tabT ns i).map V.int)) ∧ σ = [some (.ref a), some (.ref D), v, none]) ⟨sameUpd (Same.refl _) hl0, l0, none, hl0, upd_same, rfl⟩ (fun i σ H' _ h => Same.seq h.1 hS) ?_ ?_⟩
      · rintro i x σ H1 hi ⟨s1, D, v, hD, hDl, rfl⟩
        have hil : i < ns.length := by
          have := (List.getElem?_eq_some_iff.mp hi).1
          rwa [List.length_map] at this
        have hx : x = V.int (ns.getD i 0) := by
          rw [List.getElem?_map, ps_bodyR hil] at hi
          exact (Option.some.inj hi).symm
        subst hx
        have tl : (tabT ns i).length ≤ 63 := by
          rw [tab_len]
          have : 2 ^ i ≤ 2 ^ 6 := Nat.pow_le_pow_right (by decide) (by omega)
          omega
        refine ⟨_, rfl, _, rfl, by show 1 ≤ sizeLine; decide, fun p hp => ?_⟩
        have s2 := sameUpd (o := .lst [V.int (ns.getD i 0)]) (Same.refl H1) hp
        have hDp : D ≠ p := ne_of_none hDl hp
        refine ⟨D, p, _, _, rfl, rfl, by rw [upd_ne hDp]; exact hDl, upd_same, ?_, fun q hq => ?_⟩
        · rw [List.length_map]
          show (tabT ns i).length + 1 ≤ sizeLine
          exact Nat.le_of_lt (small1000 (by omega))
        obtain ⟨H2, hH2⟩ : ∃ H2, H2 = L2.upd (L2.upd H1 p (.lst [V.int (ns.getD i 0)])) q (.lst ((tabT ns i).map V.int ++ [V.int (ns.getD i 0)])) := ⟨_, rfl⟩
        have s3 : Same H1 H2 := by rw [hH2]; exact sameUpd s2 (by cases e : H1 q with | none => rfl | some o => rw [s2 _ _ e] at hq; cases hq)
        have hq2 : H2 q = some (.lst ((tabT ns i).map V.int ++ [V.int (ns.getD i 0)])) := by rw [hH2]; exact upd_same
        rw [← hH2]
        have hDl2 := s3 _ _ hDl
        refine ⟨_, rfl, D, rfl, ⟨_, SqL.of hDl2⟩, fun E hE => lc_list (K := K) (a := D) (xs := (tabT ns i).map V.int) (fun j H' => Same H2 H' ∧ H' E = some (.lst ((((tabT ns i).take j).map fun t => t + ns.getD i 0).map V.int))) ⟨sameUpd (Same.refl _) hE, upd_same⟩ (fun j H' _ h => SqL.of (h.1 _ _ hDl2)) ?_ ?_⟩
        · rintro j y H3 hj ⟨s4, hE3⟩
          obtain ⟨z, hz, rfl⟩ : ∃ z, (tabT ns i)[j]? = some z ∧ y = V.int z := by
            rw [List.getElem?_map] at hj
            cases e : (tabT ns i)[j]? with
            | none => rw [e] at hj; cases hj
            | some z => rw [e] at hj; exact ⟨z, rfl, (Option.some.inj hj).symm⟩
          refine ⟨rfl, ?_⟩
          refine ⟨_, rfl, _, rfl, _, _, rfl, rfl, ?_⟩
          refine ⟨_, hE3, ?_, ?_, ?_⟩
          · rw [List.length_map, List.length_map, List.length_take]
            exact small1000 (by omega)
          · intro b o e
            rw [upd_ne (ne_of_none e hE)]
            exact s4 b o e
          · rw [upd_same, List.take_succ, hz]
            simp
        · rintro H3 ⟨s4, hE3⟩
          rw [List.length_map, List.take_length] at hE3
          refine ⟨q, E, _, _, rfl, rfl, s4 _ _ hq2, hE3, ?_, fun r hr3 => ?_⟩
          · rw [List.length_append, List.length_map, List.length_map, List.length_map]
            show (tabT ns i).length + 1 + (tabT ns i).length ≤ sizeLine
            exact Nat.le_of_lt (small1000 (by omega))
          · have s5 := (s1.trans s3).trans s4
            refine ⟨sameUpd s5 (s5.free hr3), r, _, s5.free hr3, ?_, rfl⟩
            rw [upd_same, tab_succ]
            unfold psf
            simp
      · rintro σ H1 ⟨s1, D, v, hD, hDl, rfl⟩
        rw [List.length_map] at hDl
        exact ⟨_, rfl, k D H1 hD s1 hDl⟩
    · refine ⟨_, pss_cons (ps_set (i := 1) scPs.nd rfl (Or.inl rfl) (pe_lst pa_nil))
        (pss_cons (ps_for PassesOwn.never rfl (pi_tup (pv 0)) (pg_name (i := 2) scPs.nd rfl (Or.inr rfl))
          (pss_one (ps_set (i := 1) scPs.nd rfl (Or.inl rfl) (pe_op op_cat (pe_op op_cat (pv 1) (pe_lst (pa_cons (pv 2) pa_nil)))
            (pe_lc (own := [("total", 3)]) (g := gName 3) (tt := tYes) rfl scPs.nd (pi_list (pv 1)) (blkOk_by (own := [("total", 3)]) (N := nPs) (sc := defScope s_partial_sums) (by decide +kernel))
              (fun _ _ _ _ _ => pg_name (i := 3) scPs.nd rfl (Or.inl rfl)) (fun _ _ _ _ _ => pts_nil) (fun _ _ _ _ _ => pe_op op_add (pv 3) (pv 2)))))))
        (pss_one (ps_ret (pv 1)))), ?_⟩
      refine ⟨by show 0 ≤ sizeLine; decide, fun l0 hl0 => ?_⟩
      refine ⟨_, rfl, a, rfl, ⟨_, seqT (sameUpd (Same.refl _) hl0) hS⟩, for_tup (K := K) (a := a) (xs := ns.map V.int) (fun i σ H' => Same H H' ∧ ∃ (D : Addr) (v : Option V), H D = none ∧ H' D = some (.lst ((tabT ns i).map V.int)) ∧ σ = [some (.ref a), some (.ref D), v, none]) ⟨sameUpd (Same.refl _) hl0, l0, none, hl0, upd_same, rfl⟩ (fun i σ H' _ h => seqT h.1 hS) ?_ ?_⟩
      · rintro i x σ H1 hi ⟨s1, D, v, hD, hDl, rfl⟩
        have hil : i < ns.length := by
          have := (List.getElem?_eq_some_iff.mp hi).1
          rwa [List.length_map] at this
        have hx : x = V.int (ns.getD i 0) := by
          rw [List.getElem?_map, ps_bodyR hil] at hi
          exact (Option.some.inj hi).symm
        subst hx
        have tl : (tabT ns i).length ≤ 63 := by
          rw [tab_len]
          have : 2 ^ i ≤ 2 ^ 6 := Nat.pow_le_pow_right (by decide) (by omega)
          omega
        refine ⟨_, rfl, _, rfl, by show 1 ≤ sizeLine; decide, fun p hp => ?_⟩
        have s2 := sameUpd (o := .lst [V.int (ns.getD i 0)]) (Same.refl H1) hp
        have hDp : D ≠ p := ne_of_none hDl hp
        refine ⟨D, p, _, _, rfl, rfl, by rw [upd_ne hDp]; exact hDl, upd_same, ?_, fun q hq => ?_⟩
        · rw [List.length_map]
          show (tabT ns i).length + 1 ≤ sizeLine
          exact Nat.le_of_lt (small1000 (by omega))
        obtain ⟨H2, hH2⟩ : ∃ H2, H2 = L2.upd (L2.upd H1 p (.lst [V.int (ns.getD i 0)])) q (.lst ((tabT ns i).map V.int ++ [V.int (ns.getD i 0)])) := ⟨_, rfl⟩
        have s3 : Same H1 H2 := by rw [hH2]; exact sameUpd s2 (by cases e : H1 q with | none => rfl | some o => rw [s2 _ _ e] at hq; cases hq)
        have hq2 : H2 q = some (.lst ((tabT ns i).map V.int ++ [V.int (ns.getD i 0)])) := by rw [hH2]; exact upd_same
        rw [← hH2]
        have hDl2 := s3 _ _ hDl
        refine ⟨_, rfl, D, rfl, ⟨_, SqL.of hDl2⟩, fun E hE => lc_list (K := K) (a := D) (xs := (tabT ns i).map V.int) (fun j H' => Same H2 H' ∧ H' E = some (.lst ((((tabT ns i).take j).map fun t => t + ns.getD i 0).map V.int))) ⟨sameUpd (Same.refl _) hE, upd_same⟩ (fun j H' _ h => SqL.of (h.1 _ _ hDl2)) ?_ ?_⟩
        · rintro j y H3 hj ⟨s4, hE3⟩
          obtain ⟨z, hz, rfl⟩ : ∃ z, (tabT ns i)[j]? = some z ∧ y = V.int z := by
            rw [List.getElem?_map] at hj
            cases e : (tabT ns i)[j]? with
            | none => rw [e] at hj; cases hj
            | some z => rw [e] at hj; exact ⟨z, rfl, (Option.some.inj hj).symm⟩
          refine ⟨rfl, ?_⟩
          refine ⟨_, rfl, _, rfl, _, _, rfl, rfl, ?_⟩
          refine ⟨_, hE3, ?_, ?_, ?_⟩
          · rw [List.length_map, List.length_map, List.length_take]
            exact small1000 (by omega)
          · intro b o e
            rw [upd_ne (ne_of_none e hE)]
            exact s4 b o e
          · rw [upd_same, List.take_succ, hz]
            simp
        · rintro H3 ⟨s4, hE3⟩
          rw [List.length_map, List.take_length] at hE3
          refine ⟨q, E, _, _, rfl, rfl, s4 _ _ hq2, hE3, ?_, fun r hr3 => ?_⟩
          · rw [List.length_append, List.length_map, List.length_map, List.length_map]
            show (tabT ns i).length + 1 + (tabT ns i).length ≤ sizeLine
            exact Nat.le_of_lt (small1000 (by omega))
          · have s5 := (s1.trans s3).trans s4
            refine ⟨sameUpd s5 (s5.free hr3), r, _, s5.free hr3, ?_, rfl⟩
            rw [upd_same, tab_succ]
            unfold psf
            simp
      · rintro σ H1 ⟨s1, D, v, hD, hDl, rfl⟩
        rw [List.length_map] at hDl
        exact ⟨_, rfl, k D H1 hD s1 hDl⟩
end
end OS
namespace OS
open PySem L2
section
variable {P : Program} {w : World} {K : PySem.W.Frag} {mg : Str → Option Value} {base : Heap}
abbrev nSh : List Str := ["base", "numbers", "number"]
theorem scSh : FnScope nSh ["base", "numbers"] (defScope s_shares_divisor) := ⟨rfl, rfl, rfl, by decide +kernel, rfl, by decide +kernel, by decide +kernel⟩
theorem ok_sh {f fC : Addr} {fd dC : FuncData} (F : Fun K "_shares_divisor" "_shares_divisor" s_shares_divisor f fd)
    (EC : FnOk P w K mg base CX0 1 fC dC ["first", "second"] spCd) (GC : Df K mg "common_divisor" fC) (bC : Binds K dC ["first", "second"] []) : FnOk P w K mg base CX0 2 f fd ["base", "numbers"] (spSh K) := by
  refine F.ok scSh (fun vs H Q E h => ?_) (fun cdv A outer s H vs Q E hr h => ?_)
  · obtain ⟨a, b, ss, rfl, _⟩ := h
    rfl
  · obtain ⟨a, b, ss, rfl, hS, k⟩ := h
    refine ⟨_, pss_cons (ps_for PassesOwn.never rfl (pi_list (pv 1)) (pg_name (i := 2) scSh.nd rfl (Or.inl rfl))
        (pss_one (ps_if (pt_cmpR op_gt (pe_call EC hr rfl GC.mg GC.kp bC .nil pass0 (pa_cons (pv 2) (pa_cons (pv 0) pa_nil))) pe_int (nomark _)) (pss_one (ps_ret pe_bl)) pss_nil)))
      (pss_one (ps_ret pe_bl)), ?_⟩
    refine ⟨_, rfl, a, rfl, ⟨_, hS⟩, for_list (K := K) (a := a) (xs := ss.map V.int) (fun i σ H' => H' = H ∧ (∃ v, σ = [some (.int b), some (.ref a), v]) ∧ ((ss.take i).any fun s => decide (1 < s.natAbs.gcd b.natAbs)) = false) ⟨rfl, ⟨none, rfl⟩, rfl⟩ (fun i σ H' _ h => h.1 ▸ hS) ?_ ?_⟩
    · rintro i x σ H' hi ⟨rfl, ⟨v, rfl⟩, hz⟩
      obtain ⟨z, hzi, rfl⟩ : ∃ z, ss[i]? = some z ∧ x = V.int z := by
        rw [List.getElem?_map] at hi
        cases e : ss[i]? with
        | none => rw [e] at hi; cases hi
        | some z => rw [e] at hi; exact ⟨z, rfl, (Option.some.inj hi).symm⟩
      refine ⟨_, rfl, _, rfl, z, b, rfl, _, _, rfl, rfl, _, rfl, ?_⟩
      refine ite2 (fun h => ?_) (fun h => ?_)
      · have h1 : (1 : Int) < ((z.natAbs.gcd b.natAbs : Nat) : Int) := of_decide_eq_true h
        have : (ss.any fun s => decide (1 < s.natAbs.gcd b.natAbs)) = true := List.any_eq_true.mpr ⟨z, List.mem_of_getElem? hzi, decide_eq_true (by omega)⟩
        rw [this] at k
        exact k
      · have h1 : ¬ (1 : Int) < ((z.natAbs.gcd b.natAbs : Nat) : Int) := fun q => h (decide_eq_true q)
        refine ⟨rfl, ⟨some (.int z), rfl⟩, ?_⟩
        rw [List.take_succ, hzi, List.any_append, hz]
        show (decide (1 < z.natAbs.gcd b.natAbs) || false) = false
        rw [decide_eq_false (by omega)]
        rfl
    · rintro σ H' ⟨rfl, ⟨v, rfl⟩, hz⟩
      rw [List.length_map, List.take_length] at hz
      rw [hz] at k
      exact k
end
end OS
namespace OS
open PySem L2
/-! ### the law's own primes, sums and bases -/
def spPrL : Sp := fun vs H Q _ => ∃ (n : Int), vs = [.int n] ∧ n < 2 ^ 60 ∧ -(2 ^ 60) < n ∧ (∀ b : Bool, (b = true ↔ (0 ≤ n ∧ isP n.toNat)) → Q (.bl b) H)
def spSums (K : PySem.W.Frag) : Sp := fun vs H Q _ => ∃ (a : Addr) (ns : List Int), vs = [.ref a] ∧ SqL K H a (ns.map V.int) ∧ ns.length ≤ 6 ∧
  ∀ (D : Addr) (H' : Hp), H D = none → Same H H' → H' D = some (.lst ((tabT ns ns.length).map V.int)) → Q (.ref D) H'
def spBase (K : PySem.W.Frag) : Sp := fun vs H Q _ => ∃ (a : Addr) (ss : List Int) (b : Nat), vs = [.ref a] ∧ SqL K H a (ss.map V.int) ∧ ss.length ≤ 63 ∧ isB ss b ∧ b < 5500 ∧ ∀ H', Same H H' → Q (.int b) H'
theorem bitAnd_one (n : Nat) : Builtin.bitAnd (n : Int) 1 = ((n % 2 : Nat) : Int) := by
  unfold Builtin.bitAnd
  have e : decide (0 ≤ (n : Int)) = true := decide_eq_true (by omega)
  rw [e]
  show (((n : Int).toNat &&& (1 : Int).toNat : Nat) : Int) = _
  rw [Int.toNat_natCast]
  show ((n &&& 1 : Nat) : Int) = _
  rw [Nat.and_one_is_mod]
section
variable {P : Program} {w : World} {K : PySem.W.Frag} {mg : Str → Option Value} {base : Heap}
abbrev nPr : List Str := ["_law_number", "_law_divisor_here"]
theorem scPr : FnScope nPr ["_law_number"] (defScope s_prime) := ⟨rfl, rfl, rfl, by decide +kernel, rfl, by decide +kernel, by decide +kernel⟩
theorem ok_pr {f : Addr} {fd : FuncData} (F : Fun K "_law_prime" "_law_prime" s_prime f fd) (mR : mg "range" = none) (mI : mg "int" = none) : FnOk P w K mg base CX0 1 f fd ["_law_number"] spPrL := by
  refine F.ok scPr (fun vs H Q E h => ?_) (fun cdv A outer s H vs Q E hr h => ?_)
  · obtain ⟨n, rfl, _⟩ := h
    rfl
  · obtain ⟨n, rfl, hn1, hn0, k⟩ := h
    refine ⟨_, pss_cons (ps_for PassesOwn.never rfl (pi_range2 (by rfl) mR (pa_cons pe_int (pa_cons (pv 0) pa_nil))) (pg_name (i := 1) scPr.nd rfl (Or.inl rfl))
        (pss_cons (ps_if (pt_cmpR op_gt (pe_op op_mul (pv 1) (pv 1)) (pv 0) (nomark _)) (pss_one (ps_ret pe_bl)) pss_nil)
        (pss_one (ps_if (pt_cmpR op_eq (pe_op op_modN (pe_callTy call_int1 (by rfl) mI (by decide +kernel) (pa_cons (pv 0) pa_nil)) (pv 1)) pe_int (nomark _)) (pss_one (ps_ret pe_bl)) pss_nil))))
      (pss_one (ps_ret (pe_cmpR op_gt (pv 0) pe_int (nomark _)))), ?_⟩
    refine ⟨_, rfl, 2, n, rfl, ⟨by decide, by decide, by omega, by omega⟩, for_range (lo := 2) (n := (n - 2).toNat) (fun i σ H' => H' = H ∧ (∃ v, σ = [some (.int n), v]) ∧ ∀ d, 2 ≤ d → d < 2 + i → ¬ d ∣ n.toNat) ⟨rfl, ⟨none, rfl⟩, fun d d2 d3 => by omega⟩ ?_ ?_⟩
    · rintro i σ H' hi ⟨rfl, ⟨v, rfl⟩, hno⟩
      obtain ⟨N, rfl⟩ := Int.eq_ofNat_of_zero_le (show 0 ≤ n by omega)
      rw [Int.toNat_natCast] at hno k
      obtain ⟨f, hf⟩ : ∃ f : Nat, f = 2 + i := ⟨_, rfl⟩
      have hfN : f < N := by omega
      rw [show V.int (2 + (i : Int)) = V.int (f : Int) by rw [hf]; rfl]
      refine ⟨_, rfl, _, rfl, _, _, rfl, rfl, .inl ⟨by omega, by omega⟩, _, rfl, _, _, rfl, rfl, _, rfl, ?_⟩
      refine ite2 (fun h => ?_) (fun h => ?_)
      · have hff : N < f * f := by
          have h1 : (f : Int) * (f : Int) > (N : Int) := of_decide_eq_true h
          exact_mod_cast h1
        refine k true ?_
        constructor
        · intro _
          exact ⟨by omega, isP_sq (f := f) (by omega) (fun d d2 d3 _ => hno d d2 (by omega)) hff⟩
        · intro _; rfl
      · have em : (N : Int).fmod (f : Int) = ((N % f : Nat) : Int) := by
          rw [Int.fmod_eq_emod_of_nonneg _ (by omega)]
          rfl
        refine ⟨_, rfl, .inl ⟨_, rfl, ?_⟩⟩
        refine ⟨_, rfl, _, _, rfl, rfl, (by show (f : Int) ≠ 0; omega), ?_⟩
        refine ⟨rfl, _, rfl, ?_⟩
        show if decide (V.int ((N : Int).fmod (f : Int)) = V.int 0) = true then _ else _
        rw [em]
        refine ite2 (fun h => ?_) (fun h => ?_)
        · have h0 : N % f = 0 := by
            have := V.int.inj (of_decide_eq_true h)
            omega
          refine k false ?_
          constructor
          · intro q; cases q
          · rintro ⟨_, p⟩
            exact absurd (Nat.dvd_of_mod_eq_zero h0) (p.2 f (by omega) hfN)
        · refine ⟨rfl, ⟨some (.int (f : Int)), rfl⟩, fun d d2 d3 dv => ?_⟩
          rw [Int.toNat_natCast] at dv
          by_cases e : d < 2 + i
          · exact hno d d2 e dv
          · have e2 : d = f := by omega
            subst e2
            exact h (decide_eq_true (by rw [Nat.mod_eq_zero_of_dvd dv]; rfl))
    · rintro σ H' ⟨rfl, ⟨v, rfl⟩, hno⟩
      refine ⟨_, rfl, _, _, rfl, rfl, ?_⟩
      refine k _ ?_
      show decide (n > 1) = true ↔ _
      rw [decide_eq_true_iff]
      constructor
      · intro q
        exact ⟨by omega, by omega, fun d d2 d3 => hno d d2 (by omega)⟩
      · rintro ⟨q, p⟩
        have := p.1
        omega
abbrev nSm : List Str := ["_law_numbers", "_law_sums_here", "_law_mask", "_law_k"]
theorem scSm : FnScope nSm ["_law_numbers"] (defScope s_sums) := ⟨rfl, rfl, rfl, by decide +kernel, rfl, by decide +kernel, by decide +kernel⟩
theorem ok_sm {f : Addr} {fd : FuncData} (F : Fun K "_law_sums" "_law_sums" s_sums f fd) (mR : mg "range" = none) (mL : mg "len" = none) (mS : mg "sum" = none) : FnOk P w K mg base CX0 1 f fd ["_law_numbers"] (spSums K) := by
  refine F.ok scSm (fun vs H Q E h => ?_) (fun cdv A outer s H vs Q E hr h => ?_)
  · obtain ⟨a, ns, rfl, _⟩ := h
    rfl
  · obtain ⟨a, ns, rfl, hS, hl, k⟩ := h
    refine ⟨_, pss_cons (ps_set (i := 1) scSm.nd rfl (Or.inl rfl) (pe_lst pa_nil))
      (pss_cons (ps_for PassesOwn.never rfl (pi_range2 (by rfl) mR (pa_cons pe_int (pa_cons (pe_op op_shl pe_int (pe_callB call_len_seq (by rfl) mL PySem.boot_len (pa_cons (pv 0) pa_nil))) pa_nil))) (pg_name (i := 2) scSm.nd rfl (Or.inr rfl))
        (pss_one (ps_expr (pe_bm PySem.F.plainAttrs_list PySem.F.slot_list_append PySem.F.type_list_append mt_append (pv 1) (pa_cons
          (pe_callB (cr_sum rfl) (by rfl) mS (by decide +kernel) (pa_cons (pe_lc (own := [("_law_k", 3)]) (g := gName 3) rfl scSm.nd (pi_range1 rfl mR (pa_cons (pe_callB call_len_seq (by rfl) mL PySem.boot_len (pa_cons (pv 0) pa_nil)) pa_nil)) (blkOk_by (own := [("_law_k", 3)]) (N := nSm) (sc := defScope s_sums) (by decide +kernel))
            (fun _ _ _ _ _ => pg_name (i := 3) scSm.nd rfl (Or.inl rfl)) (fun _ _ _ _ _ => pts_one (pt_cmpR op_eq (pe_op op_and (pe_op op_shr (pv 2) (pv 3)) pe_int) pe_int (nomark _)))
            (fun _ _ _ _ _ => pe_ix (r := rIxL K) ix_list (pv 0) (pv 3) fun _ _ => rfl)) pa_nil)) pa_nil)))))
      (pss_one (ps_ret (pv 1)))), ?_⟩
    refine ⟨by show 0 ≤ sizeLine; decide, fun L hL => ?_⟩
    obtain ⟨H1, hH1⟩ : ∃ H1, H1 = L2.upd H L (.lst []) := ⟨_, rfl⟩
    have s1 : Same H H1 := by rw [hH1]; exact sameUpd (Same.refl _) hL
    have hL1 : H1 L = some (.lst []) := by rw [hH1]; exact upd_same
    rw [← hH1]
    have hlen : (((ns.map V.int).length : Nat) : Int) = (ns.length : Int) := by rw [List.length_map]
    have hpw : (1 : Int) * 2 ^ (ns.length : Int).toNat = ((2 ^ ns.length : Nat) : Int) := by
      rw [Int.toNat_natCast, Int.one_mul]
      exact (Int.natCast_pow 2 ns.length).symm
    have hp6 : 2 ^ ns.length ≤ 64 := by
      have : 2 ^ ns.length ≤ 2 ^ 6 := Nat.pow_le_pow_right (by decide) hl
      exact this
    have hp0 : 0 < 2 ^ ns.length := Nat.two_pow_pos _
    refine ⟨_, rfl, a, _, rfl, .inl (s1.seq hS), ?_⟩
    rw [hlen]
    refine ⟨_, _, rfl, rfl, ⟨by omega, by omega, by decide⟩, ?_⟩
    refine ⟨_, _, rfl, ⟨by decide, by decide, ?_, ?_⟩, ?_⟩
    · show -(2 ^ 62) ≤ (1 : Int) * 2 ^ (ns.length : Int).toNat
      rw [hpw]; omega
    · show (1 : Int) * 2 ^ (ns.length : Int).toNat < 2 ^ 62
      rw [hpw]; omega
    rw [show ((1 : Int) * 2 ^ (ns.length : Int).toNat - 1).toNat = 2 ^ ns.length - 1 by rw [hpw]; omega]
    refine for_range (lo := 1) (n := 2 ^ ns.length - 1) (fun i σ H' => (∀ b o, H1 b = some o → b ≠ L → H' b = some o) ∧ H' L = some (.lst (((tabT ns ns.length).take i).map V.int)) ∧ ∃ v u, σ = [some (.ref a), some (.ref L), v, u]) ⟨fun b o e _ => e, hL1, none, none, rfl⟩ ?_ ?_
    · rintro i σ H2 hi ⟨s2, hL2, v, u, rfl⟩
      have keep : ∀ b o, H b = some o → H2 b = some o := fun b o e => s2 b o (s1 b o e) (ne_of_none e hL)
      have hS2 : SqL K H2 a (ns.map V.int) := Same.seq keep hS
      refine ⟨_, rfl, .inl ⟨rfl, _, SqL.of hL2⟩, ?_⟩
      refine ⟨_, rfl, a, _, rfl, .inl hS2, ?_⟩
      rw [hlen]
      refine ⟨_, rfl, by omega, by omega, fun D hD => lc_range (lo := 0) (n := ns.length) (fun j H' => Same H2 H' ∧ ∃ ls : List Int, H' D = some (.lst (ls.map V.int)) ∧ ls.length ≤ j ∧ ls.sum = msT ns j (i + 1)) ⟨sameUpd (Same.refl _) hD, [], upd_same, by decide, rfl⟩ ?_ ?_⟩
      · rintro j H3 hj ⟨s3, ls, hls, hll, hsum⟩
        refine ⟨rfl, ?_⟩
        refine ⟨_, rfl, _, rfl, _, _, rfl, rfl, (by show (0 : Int) ≤ 0 + (j : Int); omega), _, _, rfl, rfl, rfl, _, rfl, ?_⟩
        have e1 : (1 + (i : Int)) / 2 ^ (0 + (j : Int)).toNat = (((i + 1) / 2 ^ j : Nat) : Int) := by
          rw [show (0 + (j : Int)).toNat = j by omega, show (1 + (i : Int)) = ((i + 1 : Nat) : Int) by omega]
          have : (2 : Int) ^ j = ((2 ^ j : Nat) : Int) := (Int.natCast_pow 2 j).symm
          rw [this]
          rfl
        show if decide (V.int (Builtin.bitAnd ((1 + (i : Int)) / 2 ^ (0 + (j : Int)).toNat) 1) = V.int 1) = true then _ else _
        rw [e1, bitAnd_one]
        refine ite2 (fun h => ?_) (fun h => ?_)
        · have hb : (i + 1) / 2 ^ j % 2 = 1 := by
            have := V.int.inj (of_decide_eq_true h)
            omega
          refine ⟨_, rfl, _, rfl, a, _, _, V.int (ns.getD j 0), rfl, rfl, s3.seq hS2, atI_in (by omega) ?_, ?_⟩
          · rw [show (0 + (j : Int)).toNat = j by omega, List.getElem?_map, ps_bodyR hj]
            rfl
          · refine ⟨_, hls, ?_, ?_, ls ++ [ns.getD j 0], ?_, ?_, ?_⟩
            · rw [List.length_map]
              exact small1000 (by omega)
            · intro b o e
              rw [upd_ne (ne_of_none e hD)]
              exact s3 b o e
            · rw [upd_same, List.map_append]
              rfl
            · rw [List.length_append]
              show ls.length + 1 ≤ j + 1
              omega
            · rw [List.sum_append, hsum]
              show msT ns j (i + 1) + (ns.getD j 0 + 0) = msT ns j (i + 1) + if (i + 1) / 2 ^ j % 2 = 1 then ns.getD j 0 else 0
              rw [if_pos hb, Int.add_zero]
        · have hb : ¬ (i + 1) / 2 ^ j % 2 = 1 := fun q => h (decide_eq_true (by rw [q]; rfl))
          refine ⟨s3, ls, hls, by omega, ?_⟩
          show ls.sum = msT ns j (i + 1) + if (i + 1) / 2 ^ j % 2 = 1 then ns.getD j 0 else 0
          rw [if_neg hb, hsum, Int.add_zero]
      · rintro H3 ⟨s3, ls, hls, hll, hsum⟩
        refine ⟨D, ls, rfl, SqL.of hls, ?_⟩
        have hL3 := s3 _ _ hL2
        refine ⟨L, _, _, rfl, rfl, hL3, ?_, ?_⟩
        · rw [List.length_map, List.length_take]
          exact small1000 (by omega)
        · have hLD : D ≠ L := (ne_of_none hL2 hD).symm
          refine ⟨fun b o e n => ?_, ?_, _, _, rfl⟩
          · rw [upd_ne n]
            exact s3 _ _ (s2 b o e n)
          · rw [upd_same, List.take_succ, tab_get ns hi, hsum]
            simp
    · rintro σ H2 ⟨s2, hL2, v, u, rfl⟩
      refine ⟨_, rfl, k L H2 hL (fun b o e => s2 b o (s1 b o e) (ne_of_none e hL)) ?_⟩
      rw [hL2, List.take_of_length_le (by rw [tab_len]; exact Nat.le_refl _)]
end
end OS
namespace OS
open PySem L2
theorem _root_.ZM.Kd.vs.same {k : ZM.Kd} {K : PySem.W.Frag} {H H' : Hp} {a : Addr} {xs : List V} (h : k.vs K H a xs) (s : Same H H') : k.vs K H' a xs := by
  cases k
  · exact s.seq h
  · exact seqT s h
theorem _root_.ZM.Kd.vs.sq {k : ZM.Kd} {K : PySem.W.Frag} {H : Hp} {a : Addr} {xs : List V} (h : k.vs K H a xs) : SqL K H a xs ∨ SqT K H a xs := by
  cases k
  · exact .inl h
  · exact .inr h
/-- the products of two rows' items, item by item -/
def prl (xs ys : List Int) (n : Nat) : List Int := (List.range n).map fun i => xs.getD i 0 * ys.getD i 0
def dotI (xs ys : List Int) : Int := (prl xs ys xs.length).sum
theorem prl_succ (xs ys : List Int) (n : Nat) : prl xs ys (n + 1) = prl xs ys n ++ [xs.getD n 0 * ys.getD n 0] := by
  unfold prl
  rw [List.range_succ, List.map_append]
  rfl
theorem prl_len (xs ys : List Int) (n : Nat) : (prl xs ys n).length = n := by unfold prl; rw [List.length_map, List.length_range]
theorem int_at {ns : List Int} {i : Nat} {x : V} (h : (ns.map V.int)[i]? = some x) : i < ns.length ∧ x = V.int (ns.getD i 0) := by
  rw [List.getElem?_map] at h
  cases e : ns[i]? with
  | none => rw [e] at h; cases h
  | some z =>
    rw [e] at h
    refine ⟨(List.getElem?_eq_some_iff.mp e).1, ?_⟩
    rw [List.getD_eq_getElem?_getD, e]
    exact (Option.some.inj h).symm
def rLenK (K : PySem.W.Frag) : List V → Hp → VK → Prop := fun xs H Q => ∃ p ys, xs = [V.ref p] ∧ (SqL K H p ys ∨ SqT K H p ys) ∧ Q (V.int (ys.length : Nat)) H
theorem call_len_K {X : Cx} (K : PySem.W.Frag) (h : X.K = K) : CallR X (.builtin "len") (rLenK K) := by subst h; exact call_len_seq
def Small (ys : List Int) : Prop := ∀ y ∈ ys, y.natAbs ≤ 1000
theorem Small.at {ys : List Int} (h : Small ys) (i : Nat) : (ys.getD i 0).natAbs ≤ 1000 := by
  rw [List.getD_eq_getElem?_getD]
  cases e : ys[i]? with
  | none => decide
  | some y => exact h y (List.mem_of_getElem? e)
/-- a table: the list of its columns -/
structure Tab (K : PySem.W.Frag) (kd : ZM.Kd) (H : Hp) (L : Addr) (cs : List (List Int)) : Prop where
  ex : ∃ ps : List Addr, SqL K H L (ps.map V.ref) ∧ ps.length = cs.length ∧ ∀ (j : Nat) (p : Addr) (c : List Int), ps[j]? = some p → cs[j]? = some c → kd.vs K H p (c.map V.int)
theorem Tab.same {K : PySem.W.Frag} {kd : ZM.Kd} {H H' : Hp} {L : Addr} {cs : List (List Int)} (t : Tab K kd H L cs) (s : Same H H') : Tab K kd H' L cs := by
  obtain ⟨ps, h1, h2, h3⟩ := t.ex
  exact ⟨ps, s.seq h1, h2, fun j p c e1 e2 => (h3 j p c e1 e2).same s⟩
theorem ref_at {ps : List Addr} {i : Nat} {x : V} (h : (ps.map V.ref)[i]? = some x) : ∃ p, ps[i]? = some p ∧ x = V.ref p := by
  rw [List.getElem?_map] at h
  cases e : ps[i]? with
  | none => rw [e] at h; cases h
  | some z => rw [e] at h; exact ⟨z, rfl, (Option.some.inj h).symm⟩
theorem col_at {α β : Type} {ps : List α} {cs : List β} {i : Nat} {p : α} (hl : ps.length = cs.length) (h : ps[i]? = some p) : ∃ c, cs[i]? = some c := by
  have := (List.getElem?_eq_some_iff.mp h).1
  exact ⟨cs[i]'(by omega), List.getElem?_eq_getElem _⟩
def ckB (cs : List (List Int)) (xs : List Int) (b : Int) : Bool :=
  if b < 2 ∨ (cs.any fun c => decide (c.length ≠ xs.length)) = true then false
  else (!(((cs.map (dotI xs)).filter (· ≠ 0)).isEmpty)) && !((tabT ((cs.map (dotI xs)).filter (· ≠ 0)) ((cs.map (dotI xs)).filter (· ≠ 0)).length).any fun s => decide (1 < s.natAbs.gcd b.natAbs))
def spDot (K : PySem.W.Frag) : Sp := fun vs H Q _ => ∃ (k1 k2 : ZM.Kd) (a b : Addr) (xs ys : List Int), vs = [.ref a, .ref b] ∧ k1.vs K H a (xs.map V.int) ∧ k2.vs K H b (ys.map V.int) ∧ xs.length = ys.length ∧ xs.length ≤ 7 ∧ Small ys ∧ ∀ H', Same H H' → Q (.int (dotI xs ys)) H'
def spCk (K : PySem.W.Frag) : Sp := fun vs H Q _ => ∃ (k1 k2 : ZM.Kd) (L r : Addr) (cs : List (List Int)) (xs : List Int) (b : Int), vs = [.ref L, .ref r, .int b] ∧ Tab K k2 H L cs ∧ k1.vs K H r (xs.map V.int) ∧ cs.length ≤ 6 ∧ xs.length ≤ 7 ∧ (∀ c ∈ cs, Small c) ∧ ∀ H', Same H H' → Q (.bl (ckB cs xs b)) H'
theorem same_put {H H1 : Hp} {D : Addr} {o : HO} (s : Same H H1) (h : H D = none) : Same H (L2.upd H1 D o) := fun b u e => by
  rw [upd_ne (ne_of_none e h)]
  exact s b u e
theorem lc_zip2 {K : PySem.W.Frag} {k1 k2 : ZM.Kd} {a b : Addr} {xs ys : List V} {g : TG} {tt : TT} {te : TE} {vs : List Nat} {σ : L2.St} {H1 : Hp} {D : Addr} {Qd : Hp → Prop} (hl : xs.length = ys.length) (Pv : Nat → Hp → Prop) (h0 : Pv 0 (L2.upd H1 D (.lst []))) (hq : ∀ i H, Pv i H → k1.vs K H a xs ∧ k2.vs K H b ys)
    (hs : ∀ i x y T H, xs[i]? = some x → ys[i]? = some y → Pv i H → H T = none → g (.ref T) (wipe σ vs) (L2.upd H T (.tup [x, y])) fun σ2 H2 => wipe σ2 vs = wipe σ vs ∧ tt σ2 H2 fun b H3 =>
      if b = true then te σ2 H3 fun y H4 => ∃ acc, H4 D = some (.lst acc) ∧ acc.length < sizeLine ∧ Pv (i + 1) (L2.upd H4 D (.lst (acc ++ [y]))) else Pv (i + 1) H3) (hd : ∀ H, Pv xs.length H → Qd H) :
    ∃ W : Nat → Nat → Hp → Prop, (∃ m, W 0 m (L2.upd H1 D (.lst []))) ∧ ∀ i m H, W i m H →
      ((ZM.It2 k1 k2 K a b).stop i H ∧ Qd H) ∨ ((ZM.It2 k1 k2 K a b).go i H ∧ ∃ Nx : Hp → Prop, (∀ H', Nx H' → ∃ m', m' < m ∧ W (i + 1) m' H') ∧ ∀ x H', (ZM.It2 k1 k2 K a b).yld i H x H' → g x (wipe σ vs) H' fun σ2 H2 => wipe σ2 vs = wipe σ vs ∧ tt σ2 H2 fun b H3 =>
        if b = true then te σ2 H3 fun y H4 => ∃ acc, H4 D = some (.lst acc) ∧ acc.length < sizeLine ∧ Nx (L2.upd H4 D (.lst (acc ++ [y]))) else Nx H3) := by
  refine ⟨fun i m H => m = xs.length - i ∧ i ≤ xs.length ∧ Pv i H, ⟨xs.length, rfl, Nat.zero_le _, h0⟩, ?_⟩
  rintro i m H ⟨rfl, hi, p⟩
  obtain ⟨qx, qy⟩ := hq i H p
  rcases Nat.lt_or_ge i xs.length with hlt | hge
  · have hx : xs[i]? = some xs[i] := List.getElem?_eq_getElem hlt
    have hy : ys[i]? = some (ys[i]'(by omega)) := List.getElem?_eq_getElem (by omega)
    refine .inr ⟨⟨xs, ys, _, _, qx, qy, hx, hy⟩, Pv (i + 1), fun H' p' => ⟨xs.length - (i + 1), by omega, rfl, hlt, p'⟩, ?_⟩
    rintro v H' ⟨T, x', y', rfl, hT, rfl, f1, f2⟩
    exact hs i x' y' T H (f1 xs qx) (f2 ys qy) p hT
  · obtain rfl : i = xs.length := by omega
    exact .inl ⟨⟨xs, ys, qx, qy, Or.inl (Nat.le_refl _)⟩, hd H p⟩
section
variable {P : Program} {w : World} {K : PySem.W.Frag} {mg : Str → Option Value} {base : Heap}
abbrev nDot : List Str := ["row", "column", "first", "second"]
theorem scDot : FnScope nDot ["row", "column"] (defScope s_dot_product) := ⟨rfl, rfl, rfl, by decide +kernel, rfl, by decide +kernel, by decide +kernel⟩
theorem ok_dot {f : Addr} {fd : FuncData} (F : Fun K "dot_product" "dot_product" s_dot_product f fd) (mS : mg "sum" = none) (mZ : mg "zip" = none) : FnOk P w K mg base CX0 1 f fd ["row", "column"] (spDot K) := by
  refine F.ok scDot (fun vs H Q E h => ?_) (fun cdv A outer s H vs Q E hr h => ?_)
  · obtain ⟨k1, k2, a, b, xs, ys, rfl, _⟩ := h
    rfl
  · obtain ⟨k1, k2, a, b, xs, ys, rfl, h1, h2, hl, h7, hb, k⟩ := h
    refine ⟨_, pss_one (ps_ret (pe_callB (cr_sum rfl) (by rfl) mS (by decide +kernel) (pa_cons (pe_lc (own := [("first", 2), ("second", 3)]) (g := gTup K 2 (gCons (gName 2) (gCons (gName 3) gNil))) (tt := tYes) rfl scDot.nd (ZM.pi_zip2 (by rfl) mZ (pa_cons (pv 0) (pa_cons (pv 1) pa_nil))) (blkOk_by (own := [("first", 2), ("second", 3)]) (N := nDot) (sc := defScope s_dot_product) (by decide +kernel))
      (fun _ _ _ _ _ => pg_tup rfl (pgs_cons (pg_name (i := 2) scDot.nd rfl (Or.inl rfl)) (pgs_cons (pg_name (i := 3) scDot.nd rfl (Or.inl rfl)) pgs_nil))) (fun _ _ _ _ _ => pts_nil) (fun _ _ _ _ _ => pe_op op_mul (pv 2) (pv 3))) pa_nil))), ?_⟩
    refine ⟨_, rfl, _, rfl, k1, k2, a, b, _, _, rfl, h1, h2, fun D hD => lc_zip2 (xs := xs.map V.int) (ys := ys.map V.int) (by rw [List.length_map, List.length_map]; exact hl) (fun j H' => Same H H' ∧ H' D = some (.lst ((prl xs ys j).map V.int))) ⟨sameUpd (Same.refl _) hD, upd_same⟩ (fun j H' p => ⟨h1.same p.1, h2.same p.1⟩) ?_ ?_⟩
    · rintro j x y T H' hx hy ⟨s1, hD1⟩ hT
      obtain ⟨hjx, rfl⟩ := int_at hx
      obtain ⟨hjy, rfl⟩ := int_at hy
      refine ⟨T, _, rfl, SqT.of upd_same, rfl, _, _, rfl, _, _, rfl, rfl, ?_⟩
      refine ⟨rfl, ?_⟩
      have hy7 := hb.at j
      refine ⟨_, rfl, _, rfl, _, _, rfl, rfl, .inr ⟨by omega, by omega⟩, ?_⟩
      refine ⟨_, by rw [upd_ne (ne_of_none hD1 hT)]; exact hD1, ?_, ?_, ?_⟩
      · rw [List.length_map, prl_len]
        exact small1000 (by omega)
      · exact same_put (sameUpd s1 (s1.free hT)) hD
      · rw [upd_same, prl_succ, List.map_append]
        rfl
    · rintro H' ⟨s1, hD1⟩
      rw [List.length_map] at hD1
      exact ⟨D, prl xs ys xs.length, rfl, SqL.of hD1, k H' s1⟩
end
end OS
namespace OS
open PySem L2
section
variable {P : Program} {w : World} {K : PySem.W.Frag} {mg : Str → Option Value} {base : Heap}
abbrev nCk : List Str := ["columns", "row", "base", "column", "products", "others", "item"]
theorem scCk : FnScope nCk ["columns", "row", "base"] (defScope s_check_split) := ⟨rfl, rfl, rfl, by decide +kernel, rfl, by decide +kernel, by decide +kernel⟩
theorem ne_len (m n : Nat) : (!decide (V.int (m : Int) = V.int (n : Int))) = decide (m ≠ n) := by
  by_cases e : m = n
  · subst e; simp
  · rw [decide_eq_false (fun q => e (by have := V.int.inj q; omega)), decide_eq_true e]; rfl
theorem ne_zero (n : Int) : (!decide (V.int n = V.int 0)) = decide (n ≠ 0) := by
  by_cases e : n = 0
  · subst e; simp
  · rw [decide_eq_false (fun q => e (V.int.inj q)), decide_eq_true e]; rfl
theorem any_snoc {α : Type} (l : List α) (x : α) (p : α → Bool) : (l ++ [x]).any p = (l.any p || p x) := by simp
theorem ok_ck {f fD fP fS : Addr} {fd dD dP dS : FuncData} (F : Fun K "check_split" "check_split" s_check_split f fd) (mA : mg "any" = none) (mL : mg "len" = none)
    (ED : FnOk P w K mg base CX0 1 fD dD ["row", "column"] (spDot K)) (GD : Df K mg "dot_product" fD) (bD : Binds K dD ["row", "column"] [])
    (EP : FnOk P w K mg base CX0 1 fP dP ["numbers"] (spPs K)) (GP : Df K mg "partial_sums" fP) (bP : Binds K dP ["numbers"] [])
    (ES : FnOk P w K mg base CX0 2 fS dS ["base", "numbers"] (spSh K)) (GS : Df K mg "_shares_divisor" fS) (bS : Binds K dS ["base", "numbers"] []) : FnOk P w K mg base CX0 3 f fd ["columns", "row", "base"] (spCk K) := by
  refine F.ok scCk (fun vs H Q E h => ?_) (fun cdv A outer s H vs Q E hr h => ?_)
  · obtain ⟨k1, k2, L, r, cs, xs, b, rfl, _⟩ := h
    rfl
  · obtain ⟨k1, k2, L, r, cs, xs, b, rfl, hT, hR, hc6, hx7, hsm, k⟩ := h
    have hr1 : Room 1 _ := hr.mono (by decide)
    have hr2 : Room 2 _ := hr.mono (by decide)
    refine ⟨_, pss_cons (ps_if (PW.pt (pw_or (pt_cmpR op_lt (pv 2) pe_int (nomark _)) (pw_or1 (pt_val (pe_callB (cr_any rfl) (by rfl) mA (by decide +kernel) (pa_cons (pe_lc (own := [("column", 3)]) (g := gName 3) (tt := tYes) rfl scCk.nd (pi_list (pv 0)) (blkOk_by (own := [("column", 3)]) (N := nCk) (sc := defScope s_check_split) (by decide +kernel))
          (fun _ _ _ _ _ => pg_name (i := 3) scCk.nd rfl (Or.inl rfl)) (fun _ _ _ _ _ => pts_nil)
          (fun _ _ _ _ _ => pe_cmpR op_ne (pe_callB (call_len_K K rfl) (by rfl) mL PySem.boot_len (pa_cons (pv 3) pa_nil)) (pe_callB (call_len_K K rfl) (by rfl) mL PySem.boot_len (pa_cons (pv 1) pa_nil)) (nomark _))) pa_nil)))))) (pss_one (ps_ret pe_bl)) pss_nil)
      (pss_cons (ps_setLc (i := 4) (own := [("column", 3)]) (g := gName 3) (tt := tYes) rfl scCk.nd rfl rfl (sw_true rfl rfl rfl (by decide +kernel)) (pi_list (pv 0)) (blkOk_by (own := [("column", 3)]) (N := nCk) (sc := defScope s_check_split) (by decide +kernel))
          (fun _ _ _ _ _ => pg_name (i := 3) scCk.nd rfl (Or.inl rfl)) (fun _ _ _ _ _ => pts_nil)
          (fun _ _ _ _ _ => pe_call ED hr1 rfl GD.mg GD.kp bD .nil pass0 (pa_cons (pv 1) (pa_cons (pv 3) pa_nil))))
      (pss_cons (ps_setLc (i := 5) (own := [("item", 6)]) (g := gName 6) rfl scCk.nd rfl rfl (sw_true rfl rfl rfl (by decide +kernel)) (pi_list (pv 4)) (blkOk_by (own := [("item", 6)]) (N := nCk) (sc := defScope s_check_split) (by decide +kernel))
          (fun _ _ _ _ _ => pg_name (i := 6) scCk.nd rfl (Or.inl rfl)) (fun _ _ _ _ _ => pts_one (pt_cmpR op_ne (pv 6) pe_int (nomark _))) (fun _ _ _ _ _ => pv 6))
      (pss_one (ps_ret (pe_and (pe_cmpR op_gt (pe_callB (call_len_K K rfl) (by rfl) mL PySem.boot_len (pa_cons (pv 5) pa_nil)) pe_int (nomark _)) (pe_one (pe_not (pe_call ES hr2 rfl GS.mg GS.kp bS .nil pass0 (pa_cons (pv 2) (pa_cons (pe_call EP hr1 rfl GP.mg GP.kp bP .nil pass0 (pa_cons (pv 5) pa_nil)) pa_nil)))))))))), ?_⟩
    obtain ⟨ps, hps, hpl, hcol⟩ := hT.ex
    refine ⟨_, rfl, _, _, rfl, rfl, _, rfl, ?_⟩
    refine ite2 (fun h => ?_) (fun h => ?_)
    · have hb2 : b < 2 := of_decide_eq_true h
      have : ckB cs xs b = false := by unfold ckB; rw [if_pos (.inl hb2)]
      rw [this] at k
      exact k H (Same.refl _)
    have hb2 : ¬ b < 2 := fun q => h (decide_eq_true q)
    refine ⟨_, rfl, L, rfl, ⟨_, hps⟩, fun D hD => lc_list (K := K) (a := L) (xs := ps.map V.ref) (fun j H' => Same H H' ∧ H' D = some (.lst (((cs.take j).map fun c => decide (c.length ≠ xs.length)).map V.bl))) ⟨sameUpd (Same.refl _) hD, upd_same⟩ (fun j H' _ h => h.1.seq hps) ?_ ?_⟩
    · rintro j x H' hj ⟨s1, hD1⟩
      obtain ⟨p, hp, rfl⟩ := ref_at hj
      obtain ⟨c, hc⟩ := col_at hpl hp
      have hjl := (List.getElem?_eq_some_iff.mp hc).1
      refine ⟨rfl, ?_⟩
      refine ⟨_, rfl, p, _, rfl, ((hcol j p c hp hc).same s1).sq, _, rfl, r, _, rfl, (hR.same s1).sq, rfl, ?_⟩
      rw [List.length_map, List.length_map]
      refine ⟨_, hD1, ?_, ?_, ?_⟩
      · rw [List.length_map, List.length_map, List.length_take]
        exact small1000 (by omega)
      · exact same_put s1 hD
      · rw [upd_same, List.take_succ, hc, List.map_append, List.map_append, ne_len]
        rfl
    · rintro H1 ⟨s1, hD1⟩
      rw [List.length_map, hpl, List.take_length] at hD1
      refine ⟨D, _, rfl, SqL.of hD1, _, rfl, ?_⟩
      obtain ⟨an, han⟩ : ∃ an : Bool, an = (cs.any fun c => decide (c.length ≠ xs.length)) := ⟨_, rfl⟩
      rw [show (List.map (fun c => decide (List.length c ≠ xs.length)) cs).any id = an by rw [List.any_map, han]; rfl]
      cases an with
      | true =>
        refine iteT ?_
        have : ckB cs xs b = false := by unfold ckB; rw [if_pos (.inr han.symm)]
        rw [this] at k
        exact k _ s1
      | false =>
        refine iteF ?_
        have hlen : ∀ c ∈ cs, c.length = xs.length := by
          intro c hc
          have := List.any_eq_false.mp han.symm c hc
          exact Classical.byContradiction fun q => this (decide_eq_true q)
        have hck : ckB cs xs b = ((!(((cs.map (dotI xs)).filter (· ≠ 0)).isEmpty)) && !((tabT ((cs.map (dotI xs)).filter (· ≠ 0)) ((cs.map (dotI xs)).filter (· ≠ 0)).length).any fun s => decide (1 < s.natAbs.gcd b.natAbs))) := by
          unfold ckB
          rw [if_neg]
          rintro (q | q)
          · exact hb2 q
          · rw [← han] at q; cases q
        rw [hck] at k
        refine ⟨_, rfl, L, rfl, ⟨_, s1.seq hps⟩, fun D2 hD2 => lc_list (K := K) (a := L) (xs := ps.map V.ref) (fun j H' => Same H1 H' ∧ H' D2 = some (.lst (((cs.take j).map (dotI xs)).map V.int))) ⟨sameUpd (Same.refl _) hD2, upd_same⟩ (fun j H' _ h => h.1.seq (s1.seq hps)) ?_ ?_⟩
        · rintro j x H' hj ⟨s2, hD22⟩
          obtain ⟨p, hp, rfl⟩ := ref_at hj
          obtain ⟨c, hc⟩ := col_at hpl hp
          have hjl := (List.getElem?_eq_some_iff.mp hc).1
          have hcm := List.mem_of_getElem? hc
          refine ⟨rfl, ?_⟩
          refine ⟨_, rfl, _, rfl, k1, k2, r, p, xs, c, rfl, (hR.same s1).same s2, ((hcol j p c hp hc).same s1).same s2, (hlen c hcm).symm, hx7, hsm c hcm, fun H3 s3 => ?_⟩
          refine ⟨_, s3 _ _ hD22, ?_, ?_, ?_⟩
          · rw [List.length_map, List.length_map, List.length_take]
            exact small1000 (by omega)
          · exact same_put (s2.trans s3) hD2
          · rw [upd_same, List.take_succ, hc, List.map_append, List.map_append]
            rfl
        · rintro H2 ⟨s2, hD22⟩
          rw [List.length_map, hpl, List.take_length] at hD22
          obtain ⟨pr, hpr⟩ : ∃ pr, pr = cs.map (dotI xs) := ⟨_, rfl⟩
          have hprl : pr.length ≤ 6 := by rw [hpr, List.length_map]; exact hc6
          rw [← hpr] at hD22 k
          refine ⟨_, rfl, D2, rfl, ⟨_, SqL.of hD22⟩, fun D3 hD3 => lc_list (K := K) (a := D2) (xs := pr.map V.int) (fun j H' => Same H2 H' ∧ H' D3 = some (.lst (((pr.take j).filter (· ≠ 0)).map V.int))) ⟨sameUpd (Same.refl _) hD3, upd_same⟩ (fun j H' _ h => h.1.seq (SqL.of hD22)) ?_ ?_⟩
          · rintro j x H' hj ⟨s3, hD33⟩
            obtain ⟨hjl, rfl⟩ := int_at hj
            have hz : pr[j]? = some (pr.getD j 0) := ps_bodyR hjl
            refine ⟨rfl, _, rfl, rfl, _, rfl, ?_⟩
            rw [ne_zero]
            refine ite2 (fun q => ?_) (fun q => ?_)
            · refine ⟨_, rfl, _, hD33, ?_, ?_, ?_⟩
              · rw [List.length_map]
                have := List.length_filter_le (fun n : Int => decide (n ≠ 0)) (pr.take j)
                rw [List.length_take] at this
                exact small1000 (by omega)
              · exact same_put s3 hD3
              · rw [upd_same, List.take_succ, hz, List.filter_append, List.map_append]
                rw [show List.filter (fun n : Int => decide (n ≠ 0)) (some (pr.getD j 0)).toList = [pr.getD j 0] from List.filter_cons_of_pos q]
                rfl
            · refine ⟨s3, ?_⟩
              rw [List.take_succ, hz, List.filter_append]
              rw [show List.filter (fun n : Int => decide (n ≠ 0)) (some (pr.getD j 0)).toList = [] from List.filter_cons_of_neg q, List.append_nil]
              exact hD33
          · rintro H3 ⟨s3, hD33⟩
            rw [List.length_map, List.take_length] at hD33
            obtain ⟨ot, hot⟩ : ∃ ot, ot = pr.filter (· ≠ 0) := ⟨_, rfl⟩
            have hotl : ot.length ≤ 6 := by
              rw [hot]
              exact Nat.le_trans (List.length_filter_le _ _) hprl
            rw [← hot] at hD33 k
            refine ⟨_, rfl, D3, _, rfl, .inl (SqL.of hD33), _, _, rfl, rfl, _, rfl, ?_⟩
            rw [List.length_map]
            have he : (!ot.isEmpty) = decide ((ot.length : Int) > 0) := by
              cases ot with
              | nil => rfl
              | cons x l => exact (decide_eq_true (by show (((l.length + 1 : Nat)) : Int) > 0; omega)).symm
            rw [he] at k
            refine ite2 (fun q => ?_) (fun q => ?_)
            · refine ⟨_, rfl, _, rfl, D3, ot, rfl, .inl (SqL.of hD33), hotl, fun D4 H4 hD4 s4 hD44 => ?_⟩
              refine ⟨D4, b, _, rfl, SqL.of hD44, _, rfl, ?_⟩
              rw [q] at k
              exact k _ (((s1.trans s2).trans s3).trans s4)
            · rw [Bool.eq_false_iff.mpr q] at k
              exact k _ ((s1.trans s2).trans s3)
end
end OS
namespace OS
open PySem L2
theorem fmod_dvd {s : Int} {b : Nat} (hb : 0 < b) : (s.fmod (b : Int) = 0) ↔ b ∣ s.natAbs := by
  rw [Int.fmod_eq_emod_of_nonneg _ (by omega)]
  constructor
  · intro h
    exact Int.ofNat_dvd_left.mp (Int.dvd_of_emod_eq_zero h)
  · intro h
    exact Int.emod_eq_zero_of_dvd (Int.ofNat_dvd_left.mpr h)
section
variable {P : Program} {w : World} {K : PySem.W.Frag} {mg : Str → Option Value} {base : Heap}
abbrev nBs : List Str := ["_law_sums_here", "_law_number", "_law_one"]
theorem scBs : FnScope nBs ["_law_sums_here"] (defScope s_base) := ⟨rfl, rfl, rfl, by decide +kernel, rfl, by decide +kernel, by decide +kernel⟩
theorem ok_bs {f fP : Addr} {fd dP : FuncData} (F : Fun K "_law_base" "_law_base" s_base f fd) (mI : mg "int" = none)
    (EP : FnOk P w K mg base CX0 1 fP dP ["_law_number"] spPrL) (GP : Df K mg "_law_prime" fP) (bP : Binds K dP ["_law_number"] []) : FnOk P w K mg base CX0 2 f fd ["_law_sums_here"] (spBase K) := by
  refine F.ok scBs (fun vs H Q E h => ?_) (fun cdv A outer s H vs Q E hr h => ?_)
  · obtain ⟨a, ss, b, rfl, _⟩ := h
    rfl
  · obtain ⟨a, ss, b0, rfl, hS, hl, hB, hb5, k⟩ := h
    refine ⟨_, pss_cons (ps_set (i := 1) scBs.nd rfl (Or.inr rfl) pe_int)
      (pss_cons (ps_while PassesOwn.never (PW.pt (pw_or (pt_not (pt_val (pe_call EP hr rfl GP.mg GP.kp bP .nil pass0 (pa_cons (pv 1) pa_nil))))
          (pw_or1 (pt_cmpR (op_neD hr.units) (pe_lc (own := [("_law_one", 2)]) (g := gName 2) rfl scBs.nd (pi_list (pv 0)) (blkOk_by (own := [("_law_one", 2)]) (N := nBs) (sc := defScope s_base) (by decide +kernel))
            (fun _ _ _ _ _ => pg_name (i := 2) scBs.nd rfl (Or.inl rfl)) (fun _ _ _ _ _ => pts_one (pt_cmpR op_eq (pe_op op_modN (pe_callTy call_int1 (by rfl) mI (by decide +kernel) (pa_cons (pv 2) pa_nil)) (pv 1)) pe_int (nomark _)))
            (fun _ _ _ _ _ => pv 2)) (pe_lst pa_nil) (nomark _)))))
        (pss_one (ps_aug (i := 1) scBs.nd rfl (Or.inr rfl) pe_int ip_add)))
      (pss_one (ps_ret (pv 1)))), ?_⟩
    refine ⟨fun n σ H' => Same H H' ∧ ∃ (b : Nat), 2 ≤ b ∧ b ≤ b0 ∧ n = b0 - b ∧ ∃ v, σ = [some (.ref a), some (.int b), v], ⟨b0 - 2, Same.refl _, 2, by decide, hB.1, rfl, none, rfl⟩, ?_⟩
    rintro n σ H1 ⟨s1, b, b2, bl, rfl, v, rfl⟩
    have step : ∀ H2, Same H1 H2 → b < b0 → ∃ N : L2.St → Hp → Prop, (∀ σ' H', N σ' H' → ∃ m', m' < b0 - b ∧ (Same H H' ∧ ∃ (c : Nat), 2 ≤ c ∧ c ≤ b0 ∧ m' = b0 - c ∧ ∃ v, σ' = [some (.ref a), some (.int c), v])) ∧ N [some (.ref a), some (.int ((b : Int) + 1)), v] H2 := by
      intro H2 s2 hb
      refine ⟨fun σ' H' => H' = H2 ∧ σ' = [some (.ref a), some (.int ((b : Int) + 1)), v], ?_, rfl, rfl⟩
      rintro σ' H' ⟨rfl, rfl⟩
      exact ⟨b0 - (b + 1), by omega, s1.trans s2, b + 1, by omega, by omega, rfl, v, rfl⟩
    refine ⟨_, rfl, b, rfl, by omega, by omega, fun pb hpb => ?_⟩
    refine ⟨pb, rfl, ?_⟩
    rw [Int.toNat_natCast] at hpb
    cases pb with
    | false =>
      refine iteT ?_
      have hnp : ¬ isP b := fun p => by
        have := hpb.mpr ⟨by omega, p⟩
        cases this
      have hb : b < b0 := by
        rcases Nat.lt_or_ge b b0 with q | q
        · exact q
        · exact absurd (isB_prime hB) (by rw [show b0 = b by omega]; exact hnp)
      obtain ⟨N, hN, hN2⟩ := step H1 (Same.refl _) hb
      exact ⟨N, hN, _, rfl, _, _, rfl, rfl, hN2⟩
    | true =>
      refine iteF ?_
      have hp : isP b := (hpb.mp rfl).2
      have hS1 := s1.seq hS
      refine ⟨_, rfl, a, rfl, ⟨_, hS1⟩, fun D hD => lc_list (K := K) (a := a) (xs := ss.map V.int) (fun j H' => Same H1 H' ∧ ∃ ls : List Int, H' D = some (.lst (ls.map V.int)) ∧ ls.length ≤ j ∧ (ls = [] ↔ ∀ s ∈ ss.take j, ¬ b ∣ s.natAbs)) ⟨sameUpd (Same.refl _) hD, [], upd_same, by decide, by simp⟩ (fun j H' _ h => h.1.seq hS1) ?_ ?_⟩
      · rintro j y H3 hj ⟨s3, ls, hls, hll, hem⟩
        obtain ⟨z, hz, rfl⟩ : ∃ z, ss[j]? = some z ∧ y = V.int z := by
          rw [List.getElem?_map] at hj
          cases e : ss[j]? with
          | none => rw [e] at hj; cases hj
          | some z => rw [e] at hj; exact ⟨z, rfl, (Option.some.inj hj).symm⟩
        have hjl : j < ss.length := (List.getElem?_eq_some_iff.mp hz).1
        have htk : ss.take (j + 1) = ss.take j ++ [z] := by rw [List.take_succ, hz]; rfl
        refine ⟨rfl, ?_⟩
        refine ⟨_, rfl, .inl ⟨_, rfl, ?_⟩⟩
        refine ⟨_, rfl, _, _, rfl, rfl, (by show (b : Int) ≠ 0; omega), rfl, _, rfl, ?_⟩
        refine ite2 (fun h => ?_) (fun h => ?_)
        · have hdv : b ∣ z.natAbs := (fmod_dvd (by omega)).mp (V.int.inj (of_decide_eq_true h))
          refine ⟨_, rfl, ?_⟩
          refine ⟨_, hls, ?_, ?_, ls ++ [z], ?_, ?_, ?_⟩
          · rw [List.length_map]
            exact small1000 (by omega)
          · intro b o e
            rw [upd_ne (ne_of_none e hD)]
            exact s3 b o e
          · rw [upd_same, List.map_append]
            rfl
          · rw [List.length_append]
            show ls.length + 1 ≤ j + 1
            omega
          · constructor
            · intro q; simp at q
            · intro q
              exact absurd hdv (q z (by rw [htk]; simp))
        · have hdv : ¬ b ∣ z.natAbs := fun q => h (decide_eq_true (congrArg V.int ((fmod_dvd (by omega)).mpr q)))
          refine ⟨s3, ls, hls, by omega, ?_⟩
          rw [hem, htk]
          constructor
          · intro q s hs
            rcases List.mem_append.mp hs with e | e
            · exact q s e
            · cases List.mem_singleton.mp e; exact hdv
          · intro q s hs
            exact q s (List.mem_append.mpr (.inl hs))
      · rintro H3 ⟨s3, ls, hls, hll, hem⟩
        rw [List.length_map, List.take_length] at hem
        refine ⟨by show 0 ≤ sizeLine; decide, fun l hl => ?_⟩
        have s4 := s3.trans (sameUpd (o := .lst []) (Same.refl H3) hl)
        refine ⟨_, _, .lst (SqL.of (by rw [upd_ne (ne_of_none hls hl)]; exact hls)) (ints_dp ls), .lst (SqL.of upd_same) .nil, intsL_shaped ls, by decide +kernel, _, rfl, ?_⟩
        rw [eqv_nil]
        cases ls with
        | nil =>
          have hno := hem.mp rfl
          refine iteF ?_
          have hbe : b = b0 := by
            rcases Nat.lt_or_ge b b0 with q | q
            · obtain ⟨s, hs, hd⟩ := isB_below hB b2 q hp
              exact absurd hd (hno s hs)
            · omega
          subst hbe
          exact ⟨_, rfl, k _ (s1.trans s4)⟩
        | cons z ls =>
          refine iteT ?_
          have hb : b < b0 := by
            rcases Nat.lt_or_ge b b0 with q | q
            · exact q
            · have e : b = b0 := by omega
              subst e
              have := hem.mpr fun s hs => isB_ndvd hB s hs
              cases this
          obtain ⟨N, hN, hN2⟩ := step _ s4 hb
          exact ⟨N, hN, _, rfl, _, _, rfl, rfl, hN2⟩
end
end OS
namespace OS
open PySem L2
def spDv : Sp := fun vs H Q _ => ∃ a b : Int, vs = [.int a, .int b] ∧ a.natAbs < 2 ^ 1000 ∧ b.natAbs < 2 ^ 1000 ∧ Q (.int ((a.natAbs.gcd b.natAbs : Nat) : Int)) H
section
variable {P : Program} {w : World} {K : PySem.W.Frag} {mg : Str → Option Value} {base : Heap}
abbrev nDv : List Str := ["_law_first", "_law_second", "_law_rest"]
theorem scDv : FnScope nDv ["_law_first", "_law_second"] (defScope s_divisor) := ⟨rfl, rfl, rfl, by decide +kernel, rfl, by decide +kernel, by decide +kernel⟩
theorem ok_dv {f : Addr} {fd : FuncData} (F : Fun K "_law_divisor" "_law_divisor" s_divisor f fd) (T : BiD mg) : FnOk P w K mg base CX0 1 f fd ["_law_first", "_law_second"] spDv := by
  refine F.ok scDv (fun vs H Q E h => ?_) (fun cdv A outer s H vs Q E hr h => ?_)
  · obtain ⟨a, b, rfl, _⟩ := h
    rfl
  · obtain ⟨a, b, rfl, ha, hb, k⟩ := h
    refine ⟨_, pss_cons (ps_set (i := 0) scDv.nd rfl (Or.inl rfl) (pe_callB call_abs (by rfl) T.abs (by decide +kernel) (pa_cons (pv 0) pa_nil)))
      (pss_cons (ps_set (i := 1) scDv.nd rfl (Or.inl rfl) (pe_callB call_abs (by rfl) T.abs (by decide +kernel) (pa_cons (pv 1) pa_nil)))
      (pss_cons (ps_while PassesOwn.never (pt_cmpR op_ne (pv 1) pe_int (nomark _))
        (pss_cons (ps_set (i := 2) scDv.nd rfl (Or.inl rfl) (pe_op op_sub (pv 0) (pe_op op_mulW (pe_op op_fdivW (pv 0) (pv 1)) (pv 1))))
        (pss_cons (ps_set (i := 0) scDv.nd rfl (Or.inl rfl) (pv 1))
        (pss_one (ps_set (i := 1) scDv.nd rfl (Or.inl rfl) (pv 2))))))
      (pss_one (ps_ret (pv 0))))), ?_⟩
    refine ⟨_, rfl, _, rfl, _, rfl, _, rfl, ?_⟩
    have ea : (if a < 0 then -a else a) = (a.natAbs : Int) := by split <;> omega
    have eb : (if b < 0 then -b else b) = (b.natAbs : Int) := by split <;> omega
    rw [ea, eb]
    refine ⟨fun n σ H' => H' = H ∧ ∃ (x y : Nat) (v : Option V), y = n ∧ σ = [some (.int x), some (.int y), v] ∧ x.gcd y = a.natAbs.gcd b.natAbs ∧ x < 2 ^ 1000 ∧ y < 2 ^ 1000, ⟨b.natAbs, rfl, a.natAbs, b.natAbs, none, rfl, rfl, rfl, ha, hb⟩, ?_⟩
    rintro n σ H' ⟨rfl, x, y, v, rfl, rfl, hg, hx, hy⟩
    refine ⟨_, rfl, rfl, _, rfl, ?_⟩
    refine ite2 (fun h => ?_) (fun h => ?_)
    · have h : y ≠ 0 := by
        intro e
        subst e
        have e0 : decide (V.int ((0 : Nat) : Int) = V.int 0) = true := decide_eq_true rfl
        rw [e0] at h
        cases h
      refine ⟨fun σ' H2 => H2 = H' ∧ ∃ v, σ' = [some (.int (y : Int)), some (.int ((x % y : Nat) : Int)), v], ?_, ?_⟩
      · rintro σ' H2 ⟨rfl, v', rfl⟩
        have lt : x % y < y := Nat.mod_lt _ (by omega)
        refine ⟨x % y, lt, rfl, y, x % y, v', rfl, rfl, ?_, hy, by omega⟩
        rw [← hg, Nat.gcd_comm x y, Nat.gcd_rec y x, Nat.gcd_comm]
      · have dl : ((x : Int) / (y : Int)).natAbs < 2 ^ 1000 := by
          rw [show (x : Int) / (y : Int) = ((x / y : Nat) : Int) from rfl, Int.natAbs_natCast]
          exact Nat.lt_of_le_of_lt (Nat.div_le_self _ _) hx
        refine ⟨_, rfl, _, rfl, _, rfl, _, _, rfl, rfl, wide_div (b := 1000) (by omega) (by rw [Int.natAbs_natCast]; exact hy) (by decide) (by decide), ?_⟩
        refine ⟨_, rfl, _, _, rfl, rfl, wide_mul (a := 1000) (b := 1000) dl (by rw [Int.natAbs_natCast]; exact hy) (by decide) (by decide) (by decide), _, _, rfl, rfl, ?_⟩
        have er : (x : Int) - (x : Int) / (y : Int) * (y : Int) = ((x % y : Nat) : Int) := by
          rw [Int.natCast_emod, Int.emod_def, Int.mul_comm (y : Int)]
        refine ⟨_, rfl, _, rfl, rfl, some (.int ((x % y : Nat) : Int)), ?_⟩
        show [some (V.int (y : Int)), some (V.int ((x : Int) - (x : Int) / (y : Int) * (y : Int))), some (V.int ((x : Int) - (x : Int) / (y : Int) * (y : Int)))] = _
        rw [er]
    · have h : y = 0 := by
        rcases Nat.eq_zero_or_pos y with e | e
        · exact e
        · exfalso
          refine h ?_
          rw [decide_eq_false (fun z => by have := V.int.inj z; omega)]
          rfl
      subst h
      rw [Nat.gcd_zero_right] at hg
      refine ⟨_, rfl, ?_⟩
      rw [hg]
      exact k
end
end OS
namespace OS
open PySem L2
theorem Own.new {st D : Addr} {H : Hp} {o u : HO} (hs : H st = some u) (h : H D = none) (hI : ¬ Is H st D) : Own st (L2.upd H D o) D o :=
  ⟨upd_same, (ne_of_none hs h).symm, fun z => hI (is_upd (ne_of_none hs h) z)⟩
theorem StD.nis {H : Hp} {st D : Addr} {m : Nat} (S : StD H st m) (h : H D = none) : ¬ Is H st D := by
  obtain ⟨bl, cl, c, bs, ns, x, _⟩ := S.ex
  rintro ⟨y, z, r, e, t⟩
  rw [x.s] at e
  cases e
  rcases t with t | t <;> cases t
  · rw [x.b] at h
    cases h
  · rw [x.k] at h
    cases h
theorem StD.own {H : Hp} {st D : Addr} {m : Nat} {o : HO} (S : StD H st m) (h : H D = none) : Own st (L2.upd H D o) D o := by
  obtain ⟨u, hu⟩ := S.there
  exact Own.new hu h (S.nis h)
theorem StD.kd {H : Hp} {st D : Addr} {m : Nat} {o : HO} (S : StD H st m) (h : H D = none) : Kd st H (L2.upd H D o) := by
  obtain ⟨u, hu⟩ := S.there
  exact Kd.new hu h
/-- an own object is changed -/
theorem Own.put {st D b : Addr} {H : Hp} {o u v : HO} (h : Own st H D o) (h2 : Own st H b u) (n : b ≠ D) : Own st (L2.upd H D v) b u :=
  ⟨by rw [upd_ne n]; exact h2.1, h2.2.1, fun z => h2.2.2 (is_upd (fun e => h.2.1 e.symm) z)⟩
theorem Own.self {st D : Addr} {H : Hp} {o v : HO} (h : Own st H D o) : Own st (L2.upd H D v) D v :=
  ⟨upd_same, h.2.1, fun z => h.2.2 (is_upd (fun e => h.2.1 e.symm) z)⟩
theorem StD.put {H : Hp} {st D : Addr} {m : Nat} {o v : HO} (S : StD H st m) (h : Own st H D o) : StD (L2.upd H D v) st m := by
  obtain ⟨bl, cl, c, bs, ns, x, a⟩ := S.ex
  have n1 : st ≠ D := fun e => h.2.1 e.symm
  have n2 : bl ≠ D := fun e => h.2.2 (e ▸ x.own)
  have n3 : cl ≠ D := fun e => h.2.2 (e ▸ x.ownc)
  exact ⟨bl, cl, c, bs, ns, ⟨by rw [upd_ne n1]; exact x.s, by rw [upd_ne n2]; exact x.b, by rw [upd_ne n3]; exact x.k, x.nb, x.nc, x.bc⟩, a⟩
theorem StD.same {H H' : Hp} {st : Addr} {m : Nat} (S : StD H st m) (s : Same H H') : StD H' st m := by
  obtain ⟨bl, cl, c, bs, ns, x, a⟩ := S.ex
  exact ⟨bl, cl, c, bs, ns, ⟨s _ _ x.s, s _ _ x.b, s _ _ x.k, x.nb, x.nc, x.bc⟩, a⟩
theorem Kd.of_same {H H' : Hp} {st : Addr} {m : Nat} (S : StD H st m) (s : Same H H') : Kd st H H' := by
  obtain ⟨u, hu⟩ := S.there
  rintro b o ⟨e, n, i⟩
  refine ⟨s _ _ e, n, ?_⟩
  rintro ⟨x, y, z, q, r⟩
  have := s _ _ hu
  rw [q] at this
  obtain rfl := Option.some.inj this
  exact i ⟨x, y, z, hu, r⟩
end OS
namespace OS
open PySem L2
/-! ### lists of rows, as data -/
def rowsD (cs : List (List Int)) : List PyData := cs.map fun c => .list (c.map PyData.int)
theorem rows_shaped : ∀ cs : List (List Int), PyData.canLayAll0 (rowsD cs) = true ∧ PyData.depthAll (rowsD cs) ≤ 2
  | [] => ⟨rfl, by simp [rowsD, PyData.depthAll]⟩
  | c :: cs => by
    obtain ⟨h1, h2⟩ := rows_shaped cs
    obtain ⟨g1, g2⟩ := ints_shaped c
    refine ⟨?_, ?_⟩
    · show PyData.canLayAll0 (PyData.list (c.map PyData.int) :: rowsD cs) = true
      unfold PyData.canLayAll0
      rw [h1]
      simp only [PyData.canLay0, g1, Bool.and_true]
    · show PyData.depthAll (PyData.list (c.map PyData.int) :: rowsD cs) ≤ 2
      unfold PyData.depthAll
      simp only [PyData.depth]
      omega
theorem rowsL_shaped (cs : List (List Int)) : PySem.SeqAt.shaped (.list (rowsD cs)) = true := by
  obtain ⟨h1, h2⟩ := rows_shaped cs
  unfold SeqAt.shaped
  simp only [PyData.canLay0, PyData.depth, h1, Bool.true_and, Bool.and_true]
  first
    | exact decide_eq_true (by omega)
    | (simp; omega)
theorem rows_nil (cs : List (List Int)) : PyData.eqv (.list (rowsD cs)) (.list []) = cs.isEmpty := by
  cases cs with
  | nil => decide +kernel
  | cons x l => simp [PyData.eqv, PyData.eqvAll, rowsD]
theorem rows_dp {K : PySem.W.Frag} {H : Hp} : ∀ (ps : List Addr) (cs : List (List Int)), ps.length = cs.length → (∀ (j : Nat) (p : Addr) (c : List Int), ps[j]? = some p → cs[j]? = some c → SqL K H p (c.map V.int)) → DpAll K H (ps.map V.ref) (rowsD cs)
  | [], [], _, _ => .nil
  | [], _ :: _, h, _ => by simp at h
  | _ :: _, [], h, _ => by simp at h
  | p :: ps, c :: cs, h, f => .cons (.lst (f 0 p c rfl rfl) (ints_dp c)) (rows_dp ps cs (by simpa using h) fun j q d e1 e2 => f (j + 1) q d (by simpa using e1) (by simpa using e2))
/-! ### the law's products and what it expects -/
def spPd (K : PySem.W.Frag) : Sp := fun vs H Q _ => ∃ (L r : Addr) (cs : List (List Int)) (xs : List Int), vs = [.ref L, .ref r] ∧ Tab K .l H L cs ∧ SqL K H r (xs.map V.int) ∧ cs.length ≤ 6 ∧ xs.length ≤ 7 ∧ (∀ c ∈ cs, Small c ∧ c.length = xs.length) ∧
  ∀ (D : Addr) (H' : Hp), H D = none → Same H H' → H' D = some (.lst (((cs.map (dotI xs)).filter (· ≠ 0)).map V.int)) → Q (.ref D) H'
def spEx (K : PySem.W.Frag) : Sp := fun vs H Q _ => ∃ (L r : Addr) (cs : List (List Int)) (xs : List Int) (b : Int), vs = [.ref L, .ref r, .int b] ∧ Tab K .l H L cs ∧ SqL K H r (xs.map V.int) ∧ cs.length ≤ 6 ∧ xs.length ≤ 7 ∧ (∀ c ∈ cs, Small c) ∧ (∀ c ∈ cs, (dotI xs c).natAbs ≤ 2 ^ 114) ∧ b.natAbs < 2 ^ 1000 ∧ ∀ H', Same H H' → Q (.bl (ckB cs xs b)) H'
theorem call_sum_K {X : Cx} (K : PySem.W.Frag) (h : X.K = K) (hc : X.calm = true) : CallR X (.builtin "sum") (rSum K) := by subst h; exact cr_sum hc
def scpPd : Scope := { kind := .function, names := [(".0", .local), ("_law_column", .cell), ("sum", .globalImplicit), ("range", .globalImplicit), ("len", .globalImplicit), ("_law_line", .cell)], isGenerator := false, isCoroutine := false }
section
variable {P : Program} {w : World} {K : PySem.W.Frag} {mg : Str → Option Value} {base : Heap}
abbrev nPd : List Str := ["_law_table", "_law_line", "_law_products_here", "_law_column", "_law_at", "_law_product"]
theorem scPd : FnScope nPd ["_law_table", "_law_line"] (defScope s_products) := ⟨rfl, rfl, rfl, by decide +kernel, rfl, by decide +kernel, by decide +kernel⟩
theorem ok_pd {f : Addr} {fd : FuncData} (F : Fun K "_law_products" "_law_products" s_products f fd) (mS : mg "sum" = none) (mR : mg "range" = none) (mL : mg "len" = none) : FnOk P w K mg base CX0 1 f fd ["_law_table", "_law_line"] (spPd K) := by
  refine F.ok scPd (fun vs H Q E h => ?_) (fun cdv A outer s H vs Q E hr h => ?_)
  · obtain ⟨L, r, cs, xs, rfl, _⟩ := h
    rfl
  · obtain ⟨L, r, cs, xs, rfl, hT, hR, hc6, hx7, hsm, k⟩ := h
    refine ⟨_, pss_cons (ps_setLc (i := 2) (own := [("_law_column", 3)]) (g := gName 3) (tt := tYes) rfl scPd.nd rfl rfl (sw_true rfl rfl rfl (by decide +kernel)) (pi_list (pv 0)) (blkOk_by (own := [("_law_column", 3)]) (N := nPd) (sc := defScope s_products) (by decide +kernel))
          (fun _ _ _ _ _ => pg_name (i := 3) scPd.nd rfl (Or.inr rfl)) (fun _ _ _ _ _ => pts_nil)
          (fun _ _ _ _ _ => pe_callB (call_sum_K K rfl rfl) (by rfl) mS (by decide +kernel) (pa_cons (pe_lc (own := [("_law_at", 4)]) (g := gName 4) (tt := tYes) rfl scPd.nd (pi_range1 rfl mR (pa_cons (pe_callB (call_len_K K rfl) (by rfl) mL PySem.boot_len (pa_cons (pv 1) pa_nil)) pa_nil)) (blkOk_by (own := [("_law_at", 4)]) (N := nPd) (sc := scpPd) (by decide +kernel))
            (fun _ _ _ _ _ => pg_name (i := 4) scPd.nd rfl (Or.inl rfl)) (fun _ _ _ _ _ => pts_nil)
            (fun _ _ _ _ _ => pe_op op_mul (pe_ix (r := rIxL K) ix_list (pv 1) (pv 4) fun _ _ => rfl) (pe_ix (r := rIxL K) ix_list (pv 3) (pv 4) fun _ _ => rfl))) pa_nil)))
      (pss_one (ps_ret (pe_lc (own := [("_law_product", 5)]) (g := gName 5) rfl scPd.nd (pi_list (pv 2)) (blkOk_by (own := [("_law_product", 5)]) (N := nPd) (sc := defScope s_products) (by decide +kernel))
          (fun _ _ _ _ _ => pg_name (i := 5) scPd.nd rfl (Or.inl rfl)) (fun _ _ _ _ _ => pts_one (pt_cmpR op_ne (pv 5) pe_int (nomark _))) (fun _ _ _ _ _ => pv 5)))), ?_⟩
    obtain ⟨ps, hps, hpl, hcol⟩ := hT.ex
    refine ⟨_, rfl, L, rfl, ⟨_, hps⟩, fun D hD => lc_list (K := K) (a := L) (xs := ps.map V.ref) (fun j H' => Same H H' ∧ H' D = some (.lst (((cs.take j).map (dotI xs)).map V.int))) ⟨sameUpd (Same.refl _) hD, upd_same⟩ (fun j H' _ h => h.1.seq hps) ?_ ?_⟩
    · rintro j x H' hj ⟨s1, hD1⟩
      obtain ⟨p, hp, rfl⟩ := ref_at hj
      obtain ⟨c, hc⟩ := col_at hpl hp
      have hjl := (List.getElem?_eq_some_iff.mp hc).1
      obtain ⟨hcs, hcl⟩ := hsm c (List.mem_of_getElem? hc)
      refine ⟨rfl, ?_⟩
      refine ⟨_, rfl, r, _, rfl, .inl (s1.seq hR), ?_⟩
      rw [List.length_map]
      refine ⟨_, rfl, by omega, by omega, fun D2 hD2 => lc_range (lo := 0) (n := xs.length) (fun i H2 => Same H' H2 ∧ H2 D2 = some (.lst ((prl xs c i).map V.int))) ⟨sameUpd (Same.refl _) hD2, upd_same⟩ ?_ ?_⟩
      · rintro i H2 hi ⟨s2, hD22⟩
        refine ⟨rfl, ?_⟩
        have hz1 : xs[i]? = some (xs.getD i 0) := ps_bodyR hi
        have hz2 : c[i]? = some (c.getD i 0) := ps_bodyR (by omega)
        have hy7 := hcs.at i
        refine ⟨_, rfl, _, rfl, r, _, _, V.int (xs.getD i 0), rfl, rfl, s2.seq (s1.seq hR), atI_in (by omega) (by rw [show (0 + (i : Int)).toNat = i by omega, List.getElem?_map, hz1]; rfl), ?_⟩
        refine ⟨_, rfl, _, rfl, p, _, _, V.int (c.getD i 0), rfl, rfl, s2.seq (s1.seq (hcol j p c hp hc)), atI_in (by omega) (by rw [show (0 + (i : Int)).toNat = i by omega, List.getElem?_map, hz2]; rfl), ?_⟩
        refine ⟨_, _, rfl, rfl, .inr ⟨by omega, by omega⟩, ?_⟩
        refine ⟨_, hD22, ?_, ?_, ?_⟩
        · rw [List.length_map, prl_len]
          exact small1000 (by omega)
        · exact same_put s2 hD2
        · rw [upd_same, prl_succ, List.map_append]
          rfl
      · rintro H2 ⟨s2, hD22⟩
        refine ⟨D2, _, rfl, SqL.of hD22, ?_⟩
        refine ⟨_, s2 _ _ hD1, ?_, ?_, ?_⟩
        · rw [List.length_map, List.length_map, List.length_take]
          exact small1000 (by omega)
        · exact same_put (s1.trans s2) hD
        · rw [upd_same, List.take_succ, hc, List.map_append, List.map_append]
          rfl
    · rintro H2 ⟨s2, hD22⟩
      rw [List.length_map, hpl, List.take_length] at hD22
      obtain ⟨pr, hpr⟩ : ∃ pr, pr = cs.map (dotI xs) := ⟨_, rfl⟩
      have hprl : pr.length ≤ 6 := by rw [hpr, List.length_map]; exact hc6
      rw [← hpr] at hD22 k
      refine ⟨_, rfl, D, rfl, ⟨_, SqL.of hD22⟩, fun D3 hD3 => lc_list (K := K) (a := D) (xs := pr.map V.int) (fun j H' => Same H2 H' ∧ H' D3 = some (.lst (((pr.take j).filter (· ≠ 0)).map V.int))) ⟨sameUpd (Same.refl _) hD3, upd_same⟩ (fun j H' _ h => h.1.seq (SqL.of hD22)) ?_ ?_⟩
      · rintro j x H' hj ⟨s3, hD33⟩
        obtain ⟨hjl, rfl⟩ := int_at hj
        have hz : pr[j]? = some (pr.getD j 0) := ps_bodyR hjl
        refine ⟨rfl, _, rfl, rfl, _, rfl, ?_⟩
        rw [ne_zero]
        refine ite2 (fun q => ?_) (fun q => ?_)
        · refine ⟨_, rfl, _, hD33, ?_, ?_, ?_⟩
          · rw [List.length_map]
            have := List.length_filter_le (fun n : Int => decide (n ≠ 0)) (pr.take j)
            rw [List.length_take] at this
            exact small1000 (by omega)
          · exact same_put s3 hD3
          · rw [upd_same, List.take_succ, hz, List.filter_append, List.map_append]
            rw [show List.filter (fun n : Int => decide (n ≠ 0)) (some (pr.getD j 0)).toList = [pr.getD j 0] from List.filter_cons_of_pos q]
            rfl
        · refine ⟨s3, ?_⟩
          rw [List.take_succ, hz, List.filter_append]
          rw [show List.filter (fun n : Int => decide (n ≠ 0)) (some (pr.getD j 0)).toList = [] from List.filter_cons_of_neg q, List.append_nil]
          exact hD33
      · rintro H3 ⟨s3, hD33⟩
        rw [List.length_map, List.take_length] at hD33
        exact k D3 H3 (s2.free hD3) (s2.trans s3) hD33
end
end OS
namespace OS
open PySem L2
theorem cols_snoc {α β : Type} {R : α → β → Prop} {ps : List α} {cs : List β} {p : α} {c : β} (hl : ps.length = cs.length) (h : ∀ (j : Nat) (q : α) (d : β), ps[j]? = some q → cs[j]? = some d → R q d) (hn : R p c) : ∀ (j : Nat) (q : α) (d : β), (ps ++ [p])[j]? = some q → (cs ++ [c])[j]? = some d → R q d := by
  intro j q d e1 e2
  by_cases hj : j < ps.length
  · rw [List.getElem?_append_left hj] at e1
    rw [List.getElem?_append_left (by omega)] at e2
    exact h j q d e1 e2
  · have hj2 : j = ps.length := by
      have := (List.getElem?_eq_some_iff.mp e1).1
      rw [List.length_append] at this
      have e : ([p] : List α).length = 1 := rfl
      omega
    subst hj2
    rw [List.getElem?_append_right (Nat.le_refl _), Nat.sub_self] at e1
    rw [hl, List.getElem?_append_right (Nat.le_refl _), Nat.sub_self] at e2
    cases e1
    cases e2
    exact hn
theorem filt_empty {α : Type} (p : α → Bool) : ∀ l : List α, (l.filter p).isEmpty = !(l.any p)
  | [] => rfl
  | x :: l => by
    cases hp : p x with
    | true => simp [hp]
    | false =>
      rw [List.filter_cons_of_neg (by rw [hp]; exact Bool.false_ne_true), filt_empty p l]
      simp [hp]
theorem filt_snoc {α : Type} (p : α → Bool) (l : List α) (j : Nat) (x : α) (h : l[j]? = some x) : (l.take (j + 1)).filter p = (l.take j).filter p ++ (if p x = true then [x] else []) := by
  rw [List.take_succ, h, List.filter_append]
  congr 1
  cases hp : p x with
  | true => exact List.filter_cons_of_pos hp
  | false => exact List.filter_cons_of_neg (by rw [hp]; exact Bool.false_ne_true)
theorem tab_empty (ns : List Int) : (tabT ns ns.length).isEmpty = ns.isEmpty := by
  cases ns with
  | nil => rfl
  | cons x l =>
    have h := tab_len (x :: l) (x :: l).length
    have h2 : 2 ≤ 2 ^ (x :: l).length := by
      have : 2 ^ 1 ≤ 2 ^ (x :: l).length := Nat.pow_le_pow_right (by decide) (by simp)
      exact this
    cases e : tabT (x :: l) (x :: l).length with
    | nil =>
      exfalso
      rw [e] at h
      have h3 : 0 = 2 ^ (x :: l).length - 1 := h
      omega
    | cons y t => rfl
theorem gcd_any {t : List Int} {b : Int} (hb : ¬ b < 2) : (t.any fun s => decide ((V.int ((s.natAbs.gcd b.natAbs : Nat) : Int)) ≠ V.int 1)) = t.any fun s => decide (1 < s.natAbs.gcd b.natAbs) := by
  congr 1
  funext s
  have hp : 0 < s.natAbs.gcd b.natAbs := Nat.gcd_pos_of_pos_right _ (by omega)
  by_cases e : s.natAbs.gcd b.natAbs = 1
  · rw [e]; rfl
  · rw [decide_eq_true (by omega : 1 < s.natAbs.gcd b.natAbs)]
    exact decide_eq_true fun q => e (by have := V.int.inj q; omega)
section
variable {P : Program} {w : World} {K : PySem.W.Frag} {mg : Str → Option Value} {base : Heap}
abbrev nEx : List Str := ["_law_table", "_law_line", "_law_number", "_law_column", "_law_sums_here", "_law_one"]
theorem scEx : FnScope nEx ["_law_table", "_law_line", "_law_number"] (defScope s_expected) := ⟨rfl, rfl, rfl, by decide +kernel, rfl, by decide +kernel, by decide +kernel⟩
theorem ok_ex {f fP fS fD : Addr} {fd dP dS dD : FuncData} (F : Fun K "_law_expected" "_law_expected" s_expected f fd) (mL : mg "len" = none)
    (EP : FnOk P w K mg base CX0 1 fP dP ["_law_table", "_law_line"] (spPd K)) (GP : Df K mg "_law_products" fP) (bP : Binds K dP ["_law_table", "_law_line"] [])
    (ES : FnOk P w K mg base CX0 1 fS dS ["_law_numbers"] (spSums K)) (GS : Df K mg "_law_sums" fS) (bS : Binds K dS ["_law_numbers"] [])
    (ED : FnOk P w K mg base CX0 1 fD dD ["_law_first", "_law_second"] spDv) (GD : Df K mg "_law_divisor" fD) (bD : Binds K dD ["_law_first", "_law_second"] []) : FnOk P w K mg base CX0 2 f fd ["_law_table", "_law_line", "_law_number"] (spEx K) := by
  refine F.ok scEx (fun vs H Q E h => ?_) (fun cdv A outer s H vs Q E hr h => ?_)
  · obtain ⟨L, r, cs, xs, b, rfl, _⟩ := h
    rfl
  · obtain ⟨L, r, cs, xs, b, rfl, hT, hR, hc6, hx7, hsm, hbd, hb, k⟩ := h
    have hun := hr.units
    refine ⟨_, pss_cons (ps_if (PW.pt (pw_or (pt_cmpR op_lt (pv 2) pe_int (nomark _)) (pw_or1 (pt_cmpR (op_neD hun) (pe_lc (own := [("_law_column", 3)]) (g := gName 3) rfl scEx.nd (pi_list (pv 0)) (blkOk_by (own := [("_law_column", 3)]) (N := nEx) (sc := defScope s_expected) (by decide +kernel))
          (fun _ _ _ _ _ => pg_name (i := 3) scEx.nd rfl (Or.inl rfl)) (fun _ _ _ _ _ => pts_one (pt_cmpR op_ne (pe_callB (call_len_K K rfl) (by rfl) mL PySem.boot_len (pa_cons (pv 3) pa_nil)) (pe_callB (call_len_K K rfl) (by rfl) mL PySem.boot_len (pa_cons (pv 1) pa_nil)) (nomark _)))
          (fun _ _ _ _ _ => pv 3)) (pe_lst pa_nil) (nomark _))))) (pss_one (ps_ret pe_bl)) pss_nil)
      (pss_cons (ps_set (i := 4) scEx.nd rfl (Or.inl rfl) (pe_call ES hr rfl GS.mg GS.kp bS .nil pass0 (pa_cons (pe_call EP hr rfl GP.mg GP.kp bP .nil pass0 (pa_cons (pv 0) (pa_cons (pv 1) pa_nil))) pa_nil)))
      (pss_one (ps_ret (pe_and (pe_cmpR (op_neD hun) (pv 4) (pe_lst pa_nil) (nomark _)) (pe_one (pe_cmpR (op_eqD hun) (pe_lc (own := [("_law_one", 5)]) (g := gName 5) rfl scEx.nd (pi_list (pv 4)) (blkOk_by (own := [("_law_one", 5)]) (N := nEx) (sc := defScope s_expected) (by decide +kernel))
          (fun _ _ _ _ _ => pg_name (i := 5) scEx.nd rfl (Or.inl rfl)) (fun _ _ _ _ _ => pts_one (pt_cmpR op_ne (pe_call ED hr rfl GD.mg GD.kp bD .nil pass0 (pa_cons (pv 5) (pa_cons (pv 2) pa_nil))) pe_int (nomark _))) (fun _ _ _ _ _ => pv 5)) (pe_lst pa_nil) (nomark _))))))), ?_⟩
    obtain ⟨ps, hps, hpl, hcol⟩ := hT.ex
    refine ⟨_, rfl, _, _, rfl, rfl, _, rfl, ?_⟩
    refine ite2 (fun h => ?_) (fun h => ?_)
    · have hb2 : b < 2 := of_decide_eq_true h
      have : ckB cs xs b = false := by unfold ckB; rw [if_pos (.inl hb2)]
      rw [this] at k
      exact k H (Same.refl _)
    have hb2 : ¬ b < 2 := fun q => h (decide_eq_true q)
    refine ⟨_, rfl, L, rfl, ⟨_, hps⟩, fun D hD => lc_list (K := K) (a := L) (xs := ps.map V.ref) (fun j H' => Same H H' ∧ ∃ qs : List Addr, H' D = some (.lst (qs.map V.ref)) ∧ qs.length = ((cs.take j).filter fun c => decide (c.length ≠ xs.length)).length ∧ qs.length ≤ j ∧ ∀ (i : Nat) (q : Addr) (c : List Int), qs[i]? = some q → ((cs.take j).filter fun c => decide (c.length ≠ xs.length))[i]? = some c → SqL K H q (c.map V.int)) ⟨sameUpd (Same.refl _) hD, [], upd_same, rfl, Nat.le_refl _, fun i q c e => by simp at e⟩ (fun j H' _ h => h.1.seq hps) ?_ ?_⟩
    · rintro j x H' hj ⟨s1, qs, hD1, hql, hqj, hqc⟩
      obtain ⟨p, hp, rfl⟩ := ref_at hj
      obtain ⟨c, hc⟩ := col_at hpl hp
      have hjl := (List.getElem?_eq_some_iff.mp hc).1
      refine ⟨rfl, ?_⟩
      refine ⟨_, rfl, p, _, rfl, .inl (s1.seq (hcol j p c hp hc)), _, rfl, r, _, rfl, .inl (s1.seq hR), rfl, _, rfl, ?_⟩
      rw [List.length_map, List.length_map, ne_len, filt_snoc _ cs j c hc]
      refine ite2 (fun q => ?_) (fun q => ?_)
      · rw [if_pos q]
        refine ⟨_, rfl, _, hD1, ?_, ?_, qs ++ [p], ?_, ?_, ?_, ?_⟩
        · rw [List.length_map]
          exact small1000 (by omega)
        · exact same_put s1 hD
        · rw [upd_same, List.map_append]
          rfl
        · rw [List.length_append, List.length_append, hql]
          rfl
        · rw [List.length_append]
          show qs.length + 1 ≤ j + 1
          omega
        · exact cols_snoc hql hqc (hcol j p c hp hc)
      · rw [if_neg q, List.append_nil]
        exact ⟨s1, qs, hD1, hql, by omega, hqc⟩
    · rintro H1 ⟨s1, qs, hD1, hql, hqj, hqc⟩
      rw [List.length_map, hpl, List.take_length] at hql hqc
      obtain ⟨ds, hds⟩ : ∃ ds, ds = cs.filter fun c => decide (c.length ≠ xs.length) := ⟨_, rfl⟩
      have hde : ds.isEmpty = !(cs.any fun c => decide (c.length ≠ xs.length)) := by rw [hds]; exact filt_empty _ cs
      rw [← hds] at hql hqc
      refine ⟨by show 0 ≤ sizeLine; decide, fun l hl => ?_⟩
      have s2 := s1.trans (sameUpd (o := .lst []) (Same.refl H1) hl)
      refine ⟨_, _, .lst (SqL.of (by rw [upd_ne (ne_of_none hD1 hl)]; exact hD1)) (rows_dp qs ds hql fun i q c e1 e2 => s2.seq (hqc i q c e1 e2)), .lst (SqL.of upd_same) .nil, rowsL_shaped ds, by decide +kernel, _, rfl, ?_⟩
      rw [rows_nil, hde, Bool.not_not]
      obtain ⟨an, han⟩ : ∃ an : Bool, an = (cs.any fun c => decide (c.length ≠ xs.length)) := ⟨_, rfl⟩
      rw [← han]
      cases an with
      | true =>
        refine iteT ?_
        have : ckB cs xs b = false := by unfold ckB; rw [if_pos (.inr han.symm)]
        rw [this] at k
        exact k _ s2
      | false =>
        refine iteF ?_
        have hlen : ∀ c ∈ cs, c.length = xs.length := by
          intro c hc
          have := List.any_eq_false.mp han.symm c hc
          exact Classical.byContradiction fun q => this (decide_eq_true q)
        have hck : ckB cs xs b = ((!(((cs.map (dotI xs)).filter (· ≠ 0)).isEmpty)) && !((tabT ((cs.map (dotI xs)).filter (· ≠ 0)) ((cs.map (dotI xs)).filter (· ≠ 0)).length).any fun s => decide (1 < s.natAbs.gcd b.natAbs))) := by
          unfold ckB
          rw [if_neg]
          rintro (q | q)
          · exact hb2 q
          · rw [← han] at q; cases q
        rw [hck] at k
        refine ⟨_, rfl, _, rfl, L, r, cs, xs, rfl, hT.same s2, s2.seq hR, hc6, hx7, fun c hc => ⟨hsm c hc, hlen c hc⟩, fun D3 H3 hD3 s3 hD33 => ?_⟩
        obtain ⟨ot, hot⟩ : ∃ ot, ot = (cs.map (dotI xs)).filter (· ≠ 0) := ⟨_, rfl⟩
        have hotl : ot.length ≤ 6 := by
          rw [hot]
          refine Nat.le_trans (List.length_filter_le _ _) ?_
          rw [List.length_map]
          exact hc6
        have hotb : ∀ n ∈ ot, n.natAbs ≤ 2 ^ 114 := by
          intro n hn
          rw [hot] at hn
          obtain ⟨c, hc, rfl⟩ := List.mem_map.mp (List.mem_filter.mp hn).1
          exact hbd c hc
        rw [← hot] at hD33 k
        refine ⟨D3, ot, rfl, SqL.of hD33, hotl, fun D4 H4 hD4 s4 hD44 => ?_⟩
        obtain ⟨t, ht⟩ : ∃ t, t = tabT ot ot.length := ⟨_, rfl⟩
        have htl : t.length ≤ 63 := by
          rw [ht, tab_len]
          have : 2 ^ ot.length ≤ 2 ^ 6 := Nat.pow_le_pow_right (by decide) hotl
          omega
        have htb : ∀ s ∈ t, s.natAbs < 2 ^ 1000 := by
          intro s hs
          rw [ht] at hs
          have h1 := tab_bd hotb ot.length s hs
          have h6 : ot.length * 2 ^ 114 ≤ 6 * 2 ^ 114 := Nat.mul_le_mul_right _ hotl
          exact Nat.lt_of_le_of_lt (Nat.le_trans h1 h6) (by decide)
        have hte : t.isEmpty = ot.isEmpty := by rw [ht]; exact tab_empty ot
        rw [← ht] at hD44 k
        rw [← hte] at k
        have s24 := (s2.trans s3).trans s4
        refine ⟨_, rfl, by show 0 ≤ sizeLine; decide, fun l2 hl2 => ?_⟩
        have s5 := s24.trans (sameUpd (o := .lst []) (Same.refl H4) hl2)
        have hD45 := (sameUpd (o := .lst []) (Same.refl H4) hl2) _ _ hD44
        obtain ⟨H5, hH5⟩ : ∃ H5, H5 = L2.upd H4 l2 (.lst []) := ⟨_, rfl⟩
        have hl25 : H5 l2 = some (.lst []) := by rw [hH5]; exact upd_same
        rw [← hH5] at s5 hD45 ⊢
        refine ⟨_, _, .lst (SqL.of hD45) (ints_dp t), .lst (SqL.of hl25) .nil, intsL_shaped t, by decide +kernel, _, rfl, ?_⟩
        rw [eqv_nil]
        refine ite2 (fun q => ?_) (fun q => ?_)
        · rw [q, Bool.true_and] at k
          refine ⟨_, rfl, D4, rfl, ⟨_, SqL.of hD45⟩, fun D6 hD6 => lc_list (K := K) (a := D4) (xs := t.map V.int) (fun j H' => Same H5 H' ∧ H' D6 = some (.lst (((t.take j).filter fun s => decide ((V.int ((s.natAbs.gcd b.natAbs : Nat) : Int)) ≠ V.int 1)).map V.int))) ⟨sameUpd (Same.refl _) hD6, upd_same⟩ (fun j H' _ h => h.1.seq (SqL.of hD45)) ?_ ?_⟩
          · rintro j x H' hj ⟨s6, hD66⟩
            obtain ⟨hjl, rfl⟩ := int_at hj
            have hz : t[j]? = some (t.getD j 0) := ps_bodyR hjl
            refine ⟨rfl, ?_⟩
            refine ⟨_, rfl, _, rfl, _, b, rfl, htb _ (List.mem_of_getElem? hz), hb, rfl, _, rfl, ?_⟩
            rw [filt_snoc _ t j _ hz]
            have eb : (!decide (V.int (((t.getD j 0).natAbs.gcd b.natAbs : Nat) : Int) = V.int 1)) = decide ((V.int (((t.getD j 0).natAbs.gcd b.natAbs : Nat) : Int)) ≠ V.int 1) := by
              by_cases e : V.int (((t.getD j 0).natAbs.gcd b.natAbs : Nat) : Int) = V.int 1
              · rw [decide_eq_true e, decide_eq_false (fun q => q e)]; rfl
              · rw [decide_eq_false e, decide_eq_true e]; rfl
            rw [eb]
            refine ite2 (fun q => ?_) (fun q => ?_)
            · rw [if_pos q]
              refine ⟨_, rfl, _, hD66, ?_, same_put s6 hD6, ?_⟩
              · rw [List.length_map]
                have := List.length_filter_le (fun s : Int => decide ((V.int ((s.natAbs.gcd b.natAbs : Nat) : Int)) ≠ V.int 1)) (t.take j)
                rw [List.length_take] at this
                exact small1000 (by omega)
              · rw [upd_same, List.map_append]
                rfl
            · rw [if_neg q, List.append_nil]
              exact ⟨s6, hD66⟩
          · rintro H6 ⟨s6, hD66⟩
            rw [List.length_map, List.take_length] at hD66
            refine ⟨by show 0 ≤ sizeLine; decide, fun l7 hl7 => ?_⟩
            have s7 := s6.trans (sameUpd (o := .lst []) (Same.refl H6) hl7)
            refine ⟨_, _, .lst (SqL.of (by rw [upd_ne (ne_of_none hD66 hl7)]; exact hD66)) (ints_dp _), .lst (SqL.of upd_same) .nil, intsL_shaped _, by decide +kernel, ?_⟩
            rw [eqv_nil, filt_empty, gcd_any hb2]
            exact k _ (s5.trans s7)
        · rw [Bool.eq_false_iff.mpr q, Bool.false_and] at k
          exact k _ s5
end
end OS
namespace OS
open PySem L2
def spCb : Sp := fun vs H Q _ => ∃ (st a : Addr) (m : Nat) (ss : List Int), vs = [.ref st, .ref a] ∧ StD H st m ∧ m ≤ 900000000 ∧ Own st H a (.lst (ss.map V.int)) ∧ ss.length ≤ 63 ∧ (∀ s ∈ ss, s.natAbs < 2 ^ 117) ∧
  ∀ (b : Int) (H' : Hp), b.natAbs < 2 ^ 1000 → StD H' st (m + 10) → Kd st H H' → Q (.int b) H'
theorem few {x : Int} (h : x.natAbs ≤ 1000000000) : x.natAbs < 2 ^ 1000 := Nat.lt_of_le_of_lt h (by decide)
section
variable {P : Program} {w : World} {K : PySem.W.Frag} {mg : Str → Option Value} {base : Heap}
abbrev nCb : List Str := ["_law_state", "_law_sums_here", "_law_plan", "_law_number"]
theorem scCb : FnScope nCb ["_law_state", "_law_sums_here"] (defScope s_chosen_base) := ⟨rfl, rfl, rfl, by decide +kernel, rfl, by decide +kernel, by decide +kernel⟩
theorem ok_cb {f fD fB : Addr} {fd dD dB : FuncData} (F : Fun K "_law_chosen_base" "_law_chosen_base" s_chosen_base f fd) (T : BiD mg)
    (ED : FnOk P w K mg base CX0 1 fD dD ["_law_state", "_law_size"] spDraw) (GD : Df K mg "_law_draw" fD) (bD : Binds K dD ["_law_state", "_law_size"] [])
    (EB : FnOk P w K mg base CX0 2 fB dB ["_law_sums_here"] (spBase K)) (GB : Df K mg "_law_base" fB) (bB : Binds K dB ["_law_sums_here"] []) : FnOk P w K mg base CX0 3 f fd ["_law_state", "_law_sums_here"] spCb := by
  refine F.ok scCb (fun vs H Q E h => ?_) (fun cdv A outer s H vs Q E hr h => ?_)
  · obtain ⟨st, a, m, ss, rfl, _⟩ := h
    rfl
  · obtain ⟨st, a, m, ss, rfl, S, hm, ow, hl, hbd, k⟩ := h
    have hr1 : Room 1 _ := hr.mono (by decide)
    have hun := hr.units
    refine ⟨_, pss_cons (ps_set (i := 2) scCb.nd rfl (Or.inl rfl) (pe_call ED hr1 rfl GD.mg GD.kp bD .nil pass0 (pa_cons (pv 0) (pa_cons pe_int pa_nil))))
      (pss_cons (ps_if (PW.pt (pw_or (pt_cmpR op_eq (pv 2) pe_int (nomark _)) (pw_or (pt_cmpR (op_eqD hun) (pv 1) (pe_lst pa_nil) (nomark _)) (pw_or1 (pt_cmpR op_in_seq pe_int (pv 1) (by rfl))))))
          (pss_one (ps_ret (pe_op op_sub (pe_call ED hr1 rfl GD.mg GD.kp bD .nil pass0 (pa_cons (pv 0) (pa_cons pe_int pa_nil))) pe_int))) pss_nil)
      (pss_cons (ps_set (i := 3) scCb.nd rfl (Or.inl rfl) (pe_call EB hr rfl GB.mg GB.kp bB .nil pass0 (pa_cons (pv 1) pa_nil)))
      (pss_cons (ps_if (pt_cmpR op_eq (pv 2) pe_int (nomark _)) (pss_one (ps_ret (pe_op op_mul (pv 3) (pv 3)))) pss_nil)
      (pss_cons (ps_if (pt_cmpR op_eq (pv 2) pe_int (nomark _)) (pss_one (ps_ret (pe_op op_mul (pv 3) (pe_op op_add pe_int (pe_call ED hr1 rfl GD.mg GD.kp bD .nil pass0 (pa_cons (pv 0) (pa_cons pe_int pa_nil))))))) pss_nil)
      (pss_cons (ps_if (pt_cmpR op_eq (pv 2) pe_int (nomark _)) (pss_one (ps_ret (pe_callB call_abs (by rfl) T.abs (by decide +kernel) (pa_cons (pe_ix (r := rIxL K) ix_list (pv 1) (pe_call ED hr1 rfl GD.mg GD.kp bD .nil pass0 (pa_cons (pv 0) (pa_cons (pe_callB (call_len_K K rfl) (by rfl) T.len PySem.boot_len (pa_cons (pv 1) pa_nil)) pa_nil))) fun _ _ => rfl) pa_nil)))) pss_nil)
      (pss_cons (ps_if (pt_cmpR op_eq (pv 2) pe_int (nomark _)) (pss_one (ps_ret (pe_ix (r := rIxL K) ix_list (pe_lst (pa_cons pe_int (pa_cons pe_int (pa_cons (pe_un un_neg (pv 3)) (pa_cons (pe_un un_neg pe_int) pa_nil))))) (pe_call ED hr1 rfl GD.mg GD.kp bD .nil pass0 (pa_cons (pv 0) (pa_cons pe_int pa_nil))) fun _ _ => rfl))) pss_nil)
      (pss_one (ps_ret (pv 3))))))))), ?_⟩
    refine ⟨_, rfl, st, m, 8, rfl, S, by omega, by decide, by decide, fun pl H1 p0 p1 S1 kd1 => ?_⟩
    refine ⟨_, rfl, rfl, _, rfl, ?_⟩
    refine ite2 (fun _ => ?_) (fun _ => ?_)
    · refine ⟨_, rfl, st, _, 15, rfl, S1, by omega, by decide, by decide, fun n H2 n0 n1 S2 kd2 => ?_⟩
      exact ⟨_, _, rfl, rfl, k _ _ (few (by omega)) (S2.mono (by omega)) (kd1.trans kd2)⟩
    have ow1 := kd1 _ _ ow
    refine ⟨_, rfl, by show 0 ≤ sizeLine; decide, fun l hl1 => ?_⟩
    have S2 := S1.new (o := .lst []) hl1
    have kd2 := kd1.trans (S1.kd (o := .lst []) hl1)
    have ow2 := (S1.kd (o := .lst []) hl1) _ _ ow1
    obtain ⟨H2, hH2⟩ : ∃ H2, H2 = L2.upd H1 l (.lst []) := ⟨_, rfl⟩
    have hl2 : H2 l = some (.lst []) := by rw [hH2]; exact upd_same
    rw [← hH2] at S2 kd2 ow2 ⊢
    refine ⟨_, _, .lst (SqL.of ow2.1) (ints_dp ss), .lst (SqL.of hl2) .nil, intsL_shaped ss, by decide +kernel, _, rfl, ?_⟩
    rw [eqv_nil]
    refine ite2 (fun _ => ?_) (fun hne => ?_)
    · refine ⟨_, rfl, st, _, 15, rfl, S2, by omega, by decide, by decide, fun n H3 n0 n1 S3 kd3 => ?_⟩
      exact ⟨_, _, rfl, rfl, k _ _ (few (by omega)) (S3.mono (by omega)) (kd2.trans kd3)⟩
    refine ⟨_, rfl, a, _, rfl, .inl (SqL.of ow2.1), rfl, List.all_eq_true.mpr (flat_ints ss), _, rfl, ?_⟩
    rw [inV_zero]
    refine ite2 (fun _ => ?_) (fun hz => ?_)
    · refine ⟨_, rfl, st, _, 15, rfl, S2, by omega, by decide, by decide, fun n H3 n0 n1 S3 kd3 => ?_⟩
      exact ⟨_, _, rfl, rfl, k _ _ (few (by omega)) (S3.mono (by omega)) (kd2.trans kd3)⟩
    have h0 : ∀ s ∈ ss, s ≠ 0 := fun s hs e => hz (decide_eq_true (e ▸ hs))
    have hpos : 0 < ss.length := by
      cases ss with
      | nil => exact absurd rfl hne
      | cons x l => exact Nat.zero_lt_succ _
    obtain ⟨b0, hb5, hB⟩ := least_base ss hl h0 hbd
    refine ⟨_, rfl, a, ss, b0, rfl, SqL.of ow2.1, hl, hB, hb5, fun H3 s3 => ?_⟩
    have S3 := S2.same s3
    have kd3 := kd2.trans (Kd.of_same S2 s3)
    have ow3 := (Kd.of_same S2 s3) _ _ ow2
    refine ⟨_, rfl, rfl, _, rfl, ?_⟩
    refine ite2 (fun _ => ?_) (fun _ => ?_)
    · refine ⟨_, rfl, _, rfl, _, _, rfl, rfl, .inl ⟨by omega, by omega⟩, ?_⟩
      refine k _ _ (few ?_) (S3.mono (by omega)) kd3
      rw [Int.natAbs_mul, Int.natAbs_natCast]
      exact Nat.le_trans (Nat.mul_le_mul (Nat.le_of_lt hb5) (Nat.le_of_lt hb5)) (by decide)
    refine ⟨_, rfl, rfl, _, rfl, ?_⟩
    refine ite2 (fun _ => ?_) (fun _ => ?_)
    · refine ⟨_, rfl, _, rfl, st, _, 12, rfl, S3, by omega, by decide, by decide, fun n H4 n0 n1 S4 kd4 => ?_⟩
      refine ⟨_, _, rfl, rfl, _, _, rfl, rfl, .inl ⟨by omega, by omega⟩, ?_⟩
      refine k _ _ (few ?_) (S4.mono (by omega)) (kd3.trans kd4)
      rw [Int.natAbs_mul, Int.natAbs_natCast]
      exact Nat.le_trans (Nat.mul_le_mul (Nat.le_of_lt hb5) (show (2 + n).natAbs ≤ 20 by omega)) (by decide)
    refine ⟨_, rfl, rfl, _, rfl, ?_⟩
    refine ite2 (fun _ => ?_) (fun _ => ?_)
    · refine ⟨_, rfl, _, rfl, _, rfl, a, _, rfl, .inl (SqL.of ow3.1), ?_⟩
      rw [List.length_map]
      refine ⟨st, _, _, rfl, S3, by omega, by omega, by omega, fun n H4 n0 n1 S4 kd4 => ?_⟩
      obtain ⟨z, hz1, hz2⟩ := getD_int (ns := ss) (k := n) n0 n1
      refine ⟨a, _, _, V.int z, rfl, rfl, SqL.of (kd4 _ _ ow3).1, atI_in n0 hz1, ?_⟩
      refine ⟨_, rfl, ?_⟩
      refine k _ _ ?_ (S4.mono (by omega)) (kd3.trans kd4)
      have := hbd z (List.mem_of_getElem? hz2)
      have e : (if z < 0 then -z else z).natAbs = z.natAbs := by split <;> omega
      rw [e]
      exact Nat.lt_trans this (by decide)
    refine ⟨_, rfl, rfl, _, rfl, ?_⟩
    refine ite2 (fun _ => ?_) (fun _ => ?_)
    · refine ⟨_, rfl, _, rfl, _, rfl, by show 4 ≤ sizeLine; decide, fun l4 hl4 => ?_⟩
      have S4 := S3.new (o := .lst [V.int 1, V.int 0, V.int (-(b0 : Int)), V.int (-1)]) hl4
      have kd4 := S3.kd (o := .lst [V.int 1, V.int 0, V.int (-(b0 : Int)), V.int (-1)]) hl4
      have ow4 := S3.own (o := .lst [V.int 1, V.int 0, V.int (-(b0 : Int)), V.int (-1)]) hl4
      refine ⟨_, rfl, st, _, 4, rfl, S4, by omega, by decide, by decide, fun n H5 n0 n1 S5 kd5 => ?_⟩
      obtain ⟨c, hc, c0⟩ : ∃ c : Int, atI [V.int 1, V.int 0, V.int (-(b0 : Int)), V.int (-1)] n = some (V.int c) ∧ c.natAbs ≤ 5500 := by
        have : n = 0 ∨ n = 1 ∨ n = 2 ∨ n = 3 := by omega
        rcases this with rfl | rfl | rfl | rfl
        · exact ⟨1, rfl, by decide⟩
        · exact ⟨0, rfl, by decide⟩
        · exact ⟨-(b0 : Int), rfl, by omega⟩
        · exact ⟨-1, rfl, by decide⟩
      refine ⟨l4, _, n, V.int c, rfl, rfl, SqL.of (kd5 _ _ ow4).1, hc, ?_⟩
      exact k _ _ (few (by omega)) (S5.mono (by omega)) ((kd3.trans kd4).trans kd5)
    · exact ⟨_, rfl, k _ _ (few (by omega)) (S3.mono (by omega)) kd3⟩
end
end OS
namespace OS
open PySem L2
def rTupK (K : PySem.W.Frag) : List V → Hp → VK → Prop := fun xs H Q => ∃ p ys, xs = [V.ref p] ∧ ((SqL K H p ys ∧ ∀ (l : Addr), H l = none → Q (V.ref l) (L2.upd H l (HO.tup ys))) ∨ SqT K H p ys ∧ Q (V.ref p) H)
def rLstK (K : PySem.W.Frag) : List V → Hp → VK → Prop := fun xs H Q => ∃ p ys, xs = [V.ref p] ∧ (SqL K H p ys ∨ SqT K H p ys) ∧ ∀ (l : Addr), H l = none → Q (V.ref l) (L2.upd H l (HO.lst ys))
theorem call_tuple_K {X : Cx} (K : PySem.W.Frag) (h : X.K = K) : CallR X (.type "tuple") (rTupK K) := by subst h; exact call_tuple_of
theorem call_list_K {X : Cx} (K : PySem.W.Frag) (h : X.K = K) : CallR X (.type "list") (rLstK K) := by subst h; exact call_list_of
theorem pass0S {X : Cx} : ∀ σ, PassesAt CX0 X σ E0 := fun σ pins H s e s' I h => pass0 pins σ H s e s' I h
/-- a table of lists that the drawing leaves alone -/
structure TabO (st : Addr) (H : Hp) (L : Addr) (cs : List (List Int)) : Prop where
  ex : ∃ ps : List Addr, Own st H L (.lst (ps.map V.ref)) ∧ ps.length = cs.length ∧ ∀ (j : Nat) (p : Addr) (c : List Int), ps[j]? = some p → cs[j]? = some c → Own st H p (.lst (c.map V.int))
theorem TabO.kd {st L : Addr} {H H' : Hp} {cs : List (List Int)} (t : TabO st H L cs) (k : Kd st H H') : TabO st H' L cs := by
  obtain ⟨ps, h1, h2, h3⟩ := t.ex
  exact ⟨ps, k _ _ h1, h2, fun j p c e1 e2 => k _ _ (h3 j p c e1 e2)⟩
theorem TabO.tab {K : PySem.W.Frag} {st L : Addr} {H : Hp} {cs : List (List Int)} (t : TabO st H L cs) : Tab K .l H L cs := by
  obtain ⟨ps, h1, h2, h3⟩ := t.ex
  exact ⟨ps, SqL.of h1.1, h2, fun j p c e1 e2 => SqL.of (h3 j p c e1 e2).1⟩
theorem StD.fresh {H H' : Hp} {st D : Addr} {m : Nat} {o : HO} (S : StD H st m) (s : Same H H') (h : H D = none) (e : H' D = some o) : Own st H' D o := by
  obtain ⟨u, hu⟩ := S.there
  refine ⟨e, (fun q => (by rw [q, hu] at h; cases h)), ?_⟩
  rintro ⟨x, y, z, q, r⟩
  have := s _ _ hu
  rw [q] at this
  obtain rfl := Option.some.inj this
  exact S.nis h ⟨x, y, z, hu, r⟩
theorem col_ne {H : Hp} {D p : Addr} {ps : List Addr} {c : List Int} {i : Nat} (h1 : H D = some (.lst (ps.map V.ref))) (h2 : H p = some (.lst (c.map V.int))) (hi : i < ps.length) : p ≠ D := by
  intro e
  subst e
  rw [h2] at h1
  have h3 : c.map V.int = ps.map V.ref := by injection h1 with h; injection h
  have h4 : (ps.map V.ref)[i]? = some (V.ref ps[i]) := by rw [List.getElem?_map, List.getElem?_eq_getElem hi]; rfl
  rw [← h3, List.getElem?_map] at h4
  cases e : c[i]? with
  | none => rw [e] at h4; cases h4
  | some x => rw [e] at h4; cases h4
theorem cols_set {α β : Type} {R : α → β → Prop} {ps : List α} {cs : List β} {q : α} {d : β} (k : Nat) (h : ∀ (j : Nat) (p : α) (c : β), ps[j]? = some p → cs[j]? = some c → R p c) (hn : R q d) : ∀ (j : Nat) (p : α) (c : β), (ps.set k q)[j]? = some p → (cs.set k d)[j]? = some c → R p c := by
  intro j p c e1 e2
  rw [List.getElem?_set] at e1 e2
  by_cases e : k = j
  · rw [if_pos e] at e1 e2
    split at e1
    · split at e2
      · cases e1; cases e2; exact hn
      · cases e2
    · cases e1
  · rw [if_neg e] at e1 e2
    exact h j p c e1 e2
def big : Nat := 3 * (10 ^ 30 + 1)
theorem prl_bd {xs ys : List Int} {B : Nat} (hx : ∀ x ∈ xs, x.natAbs ≤ B) (hy : Small ys) : ∀ n, (prl xs ys n).sum.natAbs ≤ n * (B * 1000)
  | 0 => Nat.zero_le _
  | n + 1 => by
    have ih := prl_bd hx hy n
    have h1 : (xs.getD n 0).natAbs ≤ B := by
      rw [List.getD_eq_getElem?_getD]
      cases e : xs[n]? with
      | none => exact Nat.zero_le _
      | some y => exact hx y (List.mem_of_getElem? e)
    have h2 := hy.at n
    have h3 : (xs.getD n 0 * ys.getD n 0).natAbs ≤ B * 1000 := by
      rw [Int.natAbs_mul]
      exact Nat.mul_le_mul h1 h2
    rw [prl_succ, List.sum_append]
    show ((prl xs ys n).sum + (xs.getD n 0 * ys.getD n 0 + 0)).natAbs ≤ _
    rw [Nat.succ_mul]
    omega
theorem dot_bd {xs ys : List Int} (hx : ∀ x ∈ xs, x.natAbs ≤ big) (hl : xs.length ≤ 6) (hy : Small ys) : (dotI xs ys).natAbs ≤ 2 ^ 114 := by
  have h := prl_bd hx hy xs.length
  have h2 : xs.length * (big * 1000) ≤ 6 * (big * 1000) := Nat.mul_le_mul_right _ hl
  exact Nat.le_trans (Nat.le_trans h h2) (by decide)
def spLaw (K : PySem.W.Frag) : Sp := fun vs H Q _ => ∃ (a : Addr) (ns : List Int), vs = [.ref a] ∧ SqL K H a (ns.map V.int) ∧ ns.length ≤ 63 ∧ ∀ H', Q (.bl true) H'
def scpT : Scope := { kind := .function, names := [(".0", .local), ("_law_number", .local), ("range", .globalImplicit), ("_law_height", .cell), ("_law_scale", .cell), ("_law_state", .cell)], isGenerator := false, isCoroutine := false }
structure BiL (mg : Str → Option Value) : Prop where
  isi : mg "isinstance" = none
  bool : mg "bool" = none
  tup : mg "tuple" = none
section
variable {P : Program} {w : World} {K : PySem.W.Frag} {mg : Str → Option Value} {base : Heap}
abbrev nLaw : List Str := ["_law_script", "_law_state", "_law_height", "_law_count", "_law_scale", "_law_lengths", "_law_zeros", "_law_table", "_law_at", "_law_number", "_law_factor", "_law_line", "_law_spot", "_law_passed", "_law_column", "_law_expected_here", "_law_actual", "_law_again"]
theorem scLaw : FnScope nLaw ["_law_script"] (defScope sLaw) := ⟨rfl, rfl, rfl, by decide +kernel, rfl, by decide +kernel, by decide +kernel⟩
theorem ok_law {f fS fD fP fU fB fX fC : Addr} {fd dS dD dP dU dB dX dC : FuncData} (F : Fun K "law" "law" sLaw f fd) (mR : mg "range" = none) (T : BiD mg) (T2 : BiL mg)
    (ES : FnOk P w K mg base CX0 1 fS dS ["_law_script"] (spStartD K)) (GS : Df K mg "_law_start" fS) (bS : Binds K dS ["_law_script"] [])
    (ED : FnOk P w K mg base CX0 1 fD dD ["_law_state", "_law_size"] spDraw) (GD : Df K mg "_law_draw" fD) (bD : Binds K dD ["_law_state", "_law_size"] [])
    (EP : FnOk P w K mg base CX0 1 fP dP ["_law_table", "_law_line"] (spPd K)) (GP : Df K mg "_law_products" fP) (bP : Binds K dP ["_law_table", "_law_line"] [])
    (EU : FnOk P w K mg base CX0 1 fU dU ["_law_numbers"] (spSums K)) (GU : Df K mg "_law_sums" fU) (bU : Binds K dU ["_law_numbers"] [])
    (EB : FnOk P w K mg base CX0 3 fB dB ["_law_state", "_law_sums_here"] spCb) (GB : Df K mg "_law_chosen_base" fB) (bB : Binds K dB ["_law_state", "_law_sums_here"] [])
    (EX : FnOk P w K mg base CX0 2 fX dX ["_law_table", "_law_line", "_law_number"] (spEx K)) (GX : Df K mg "_law_expected" fX) (bX : Binds K dX ["_law_table", "_law_line", "_law_number"] [])
    (EC : FnOk P w K mg base CX0 3 fC dC ["columns", "row", "base"] (spCk K)) (GC : Df K mg "check_split" fC) (bC : Binds K dC ["columns", "row", "base"] [])
    (kC : KBn K dC ["columns", "row", "base"] 0 ["base", "row", "columns"] (fun us ws => us ++ ws.reverse) (fun vs zs => vs ++ zs.reverse)) : FnOk P w K mg base CX0 4 f fd ["_law_script"] (spLaw K) := by
  refine F.ok scLaw (fun vs H Q E h => ?_) (fun cdv A outer s H vs Q E hr h => ?_)
  · obtain ⟨a, ns, rfl, _⟩ := h
    rfl
  · obtain ⟨a, ns, rfl, hS, hn, k⟩ := h
    have hr1 : Room 1 _ := hr.mono (by decide)
    have hr2 : Room 2 _ := hr.mono (by decide)
    have hun := hr.units
    refine ⟨_, pss_cons (ps_set (i := 1) scLaw.nd rfl (Or.inr rfl) (pe_call ES hr1 rfl GS.mg GS.kp bS .nil pass0 (pa_cons (pv 0) pa_nil)))
      (pss_cons (ps_set (i := 2) scLaw.nd rfl (Or.inr rfl) (pe_call ED hr1 rfl GD.mg GD.kp bD .nil pass0 (pa_cons (pv 1) (pa_cons pe_int pa_nil))))
      (pss_cons (ps_set (i := 3) scLaw.nd rfl (Or.inl rfl) (pe_call ED hr1 rfl GD.mg GD.kp bD .nil pass0 (pa_cons (pv 1) (pa_cons pe_int pa_nil))))
      (pss_cons (ps_set (i := 4) scLaw.nd rfl (Or.inr rfl) (pe_ix (r := rIxL K) ix_list (pe_lst (pa_cons pe_int (pa_cons pe_int (pa_cons pe_int (pa_cons pe_int pa_nil))))) (pe_call ED hr1 rfl GD.mg GD.kp bD .nil pass0 (pa_cons (pv 1) (pa_cons pe_int pa_nil))) fun _ _ => rfl))
      (pss_cons (ps_set (i := 5) scLaw.nd rfl (Or.inl rfl) (pe_call ED hr1 rfl GD.mg GD.kp bD .nil pass0 (pa_cons (pv 1) (pa_cons pe_int pa_nil))))
      (C8.pss_cut (ps_set (i := 6) scLaw.nd rfl (Or.inl rfl) (pe_cmpR op_eq (pe_call ED hr1 rfl GD.mg GD.kp bD .nil pass0 (pa_cons (pv 1) (pa_cons pe_int pa_nil))) pe_int (nomark _)))
      (pss_cons (ps_setLc (i := 7) (own := [("_law_number", 9)]) (g := gName 9) (tt := tYes) rfl scLaw.nd rfl rfl (sw_true rfl rfl rfl (by decide +kernel)) (pi_range1 rfl mR (pa_cons (pv 3) pa_nil)) (blkOk_by (own := [("_law_number", 9)]) (N := nLaw) (sc := defScope sLaw) (by decide +kernel))
          (fun _ _ _ _ _ => pg_name (i := 9) scLaw.nd rfl (Or.inl rfl)) (fun _ _ _ _ _ => pts_nil)
          (fun _ _ _ _ _ => pe_lc (own := [("_law_at", 8)]) (g := gName 8) (tt := tYes) rfl scLaw.nd (pi_range1 rfl mR (pa_cons (pv 2) pa_nil)) (blkOk_by (own := [("_law_at", 8)]) (N := nLaw) (sc := scpT) (by decide +kernel))
            (fun _ _ _ _ _ => pg_name (i := 8) scLaw.nd rfl (Or.inl rfl)) (fun _ _ _ _ _ => pts_nil)
            (fun _ _ _ _ _ => pe_op op_sub (pe_call ED hr1 rfl GD.mg GD.kp bD .nil pass0 (pa_cons (pv 1) (pa_cons (pe_op op_add (pe_op op_mul pe_int (pv 4)) pe_int) pa_nil))) (pv 4))))
      (pss_cons (ps_set (i := 10) scLaw.nd rfl (Or.inr rfl) (pe_ix (r := rIxL K) ix_list (pe_lst (pa_cons pe_int (pa_cons pe_int (pa_cons pe_int (pa_cons (pe_op op_add (pe_op op_pow pe_int pe_int) pe_int) pa_nil))))) (pe_call ED hr1 rfl GD.mg GD.kp bD .nil pass0 (pa_cons (pv 1) (pa_cons pe_int pa_nil))) fun _ _ => rfl))
      (pss_cons (ps_setLc (i := 11) (own := [("_law_at", 8)]) (g := gName 8) (tt := tYes) rfl scLaw.nd rfl rfl (sw_true rfl rfl rfl (by decide +kernel)) (pi_range1 rfl mR (pa_cons (pv 2) pa_nil)) (blkOk_by (own := [("_law_at", 8)]) (N := nLaw) (sc := defScope sLaw) (by decide +kernel))
          (fun _ _ _ _ _ => pg_name (i := 8) scLaw.nd rfl (Or.inl rfl)) (fun _ _ _ _ _ => pts_nil)
          (fun _ _ _ _ _ => pe_op op_mul (pv 10) (pe_op op_sub (pe_call ED hr1 rfl GD.mg GD.kp bD .nil pass0 (pa_cons (pv 1) (pa_cons pe_int pa_nil))) pe_int)))
      (C8.pss_cut (ps_if (pt_val (pv 6)) (pss_one (ps_set (i := 11) scLaw.nd rfl (Or.inl rfl) (pe_op op_rep (pe_lst (pa_cons pe_int pa_nil)) (pv 2)))) pss_nil)
      (pss_cons (ps_set (i := 9) scLaw.nd rfl (Or.inl rfl) (pe_call EB hr rfl GB.mg GB.kp bB .nil pass0 (pa_cons (pv 1) (pa_cons (pe_call EU hr1 rfl GU.mg GU.kp bU .nil pass0 (pa_cons (pe_call EP hr1 rfl GP.mg GP.kp bP .nil pass0 (pa_cons (pv 7) (pa_cons (pv 11) pa_nil))) pa_nil)) pa_nil))))
      (C8.pss_cut (ps_if (PW.pt (pw_and (pt_cmpR op_eq (pv 5) pe_int (nomark _)) (pw_and1 (pt_cmpR op_gt (pv 3) pe_int (nomark _)))))
          (pss_cons (ps_set (i := 12) scLaw.nd rfl (Or.inl rfl) (pe_call ED hr1 rfl GD.mg GD.kp bD .nil pass0 (pa_cons (pv 1) (pa_cons (pv 3) pa_nil))))
          (pss_one (ps_asg (pe_op op_cat (pe_ix (r := rIxL K) ix_list (pv 7) (pv 12) fun _ _ => rfl) (pe_lst (pa_cons pe_int pa_nil))) (pg_sub (pv 7) (pv 12) set_list)))) pss_nil)
      (C8.pss_cut (ps_if (pt_cmpR op_eq (pv 5) pe_int (nomark _)) (pss_one (ps_set (i := 11) scLaw.nd rfl (Or.inl rfl) (pe_op op_cat (pv 11) (pe_lst (pa_cons pe_int pa_nil))))) pss_nil)
      (pss_cons (ps_setLc (i := 13) (own := [("_law_column", 14)]) (g := gName 14) (tt := tYes) rfl scLaw.nd rfl rfl (sw_true rfl rfl rfl (by decide +kernel)) (pi_list (pv 7)) (blkOk_by (own := [("_law_column", 14)]) (N := nLaw) (sc := defScope sLaw) (by decide +kernel))
          (fun _ _ _ _ _ => pg_name (i := 14) scLaw.nd rfl (Or.inl rfl)) (fun _ _ _ _ _ => pts_nil)
          (fun _ _ _ _ _ => pe_callTy (call_list_K K rfl) (by rfl) T.list (by decide +kernel) (pa_cons (pv 14) pa_nil)))
      (pss_cons (ps_set (i := 15) scLaw.nd rfl (Or.inl rfl) (pe_call EX hr2 rfl GX.mg GX.kp bX .nil pass0 (pa_cons (pv 7) (pa_cons (pv 11) (pa_cons (pv 9) pa_nil)))))
      (pss_cons (ps_set (i := 16) scLaw.nd rfl (Or.inl rfl) (pe_call EC hr rfl GC.mg GC.kp bC .nil pass0 (pa_cons (pv 13) (pa_cons (pe_callTy (call_tuple_K K rfl) (by rfl) T2.tup (by decide +kernel) (pa_cons (pv 11) pa_nil)) (pa_cons (pv 9) pa_nil)))))
      (C8.pss_cut (ps_if (PW.pt (pw_or (pt_cmpR (op_neD hun) (pv 13) (pv 7) (nomark _)) (pw_or (pt_not (pt_val (pe_callB call_isi (by rfl) T2.isi (by decide +kernel) (pa_cons (pv 16) (pa_cons (pe_bltn (v := V.ty "bool") (u := .type "bool") (by rfl) T2.bool (by decide +kernel) rfl) pa_nil))))) (pw_or1 (pt_cmpR op_ne (pv 16) (pv 15) (nomark _)))))) (pss_one (ps_ret pe_bl)) pss_nil)
      (pss_cons (ps_set (i := 17) scLaw.nd rfl (Or.inl rfl) (pe_callKS0 EC hr rfl GC.mg GC.kp kC (E := fun _ => E0) pass0S (pk_cons (pv 9) (pk_cons (pe_callTy (call_list_K K rfl) (by rfl) T.list (by decide +kernel) (pa_cons (pv 11) pa_nil)) (pk_cons (pe_lc (own := [("_law_column", 14)]) (g := gName 14) (tt := tYes) rfl scLaw.nd (pi_list (pv 7)) (blkOk_by (own := [("_law_column", 14)]) (N := nLaw) (sc := defScope sLaw) (by decide +kernel))
          (fun _ _ _ _ _ => pg_name (i := 14) scLaw.nd rfl (Or.inl rfl)) (fun _ _ _ _ _ => pts_nil)
          (fun _ _ _ _ _ => pe_callTy (call_tuple_K K rfl) (by rfl) T2.tup (by decide +kernel) (pa_cons (pv 14) pa_nil))) pk_nil)))))
      (pss_one (ps_ret (pe_or (pe_and (pe_cmpR op_is_bl (pv 17) pe_bl (nomark _)) (pe_one (pv 15))) (pe_one (pe_and (pe_cmpR op_is_bl (pv 17) pe_bl (nomark _)) (pe_one (pe_not (pv 15))))))))))))))))))))))))), ?_⟩
    refine ⟨_, rfl, a, ns, rfl, hS, hn, fun st H1 S1 s1 hst ow1 => ?_⟩
    refine ⟨_, rfl, st, _, 6, rfl, S1, by omega, by decide, by decide, fun hh H2 h0 h5 S2 kd2 => ?_⟩
    refine ⟨_, rfl, st, _, 7, rfl, S2, by omega, by decide, by decide, fun cn H3 c0 c6 S3 kd3 => ?_⟩
    refine ⟨by show 4 ≤ sizeLine; decide, fun l hl => ?_⟩
    have S3' := S3.new (o := .lst [V.int 1, V.int 2, V.int 20, V.int 1000]) hl
    have el0 := S3.own (o := .lst [V.int 1, V.int 2, V.int 20, V.int 1000]) hl
    refine ⟨_, rfl, st, _, 4, rfl, S3', by omega, by decide, by decide, fun i4 H4 i0 i3 S4 kd4 => ?_⟩
    obtain ⟨sc, hsc, sc1, sc2⟩ : ∃ c : Int, atI [V.int 1, V.int 2, V.int 20, V.int 1000] i4 = some (V.int c) ∧ 1 ≤ c ∧ c ≤ 1000 := by
      have : i4 = 0 ∨ i4 = 1 ∨ i4 = 2 ∨ i4 = 3 := by omega
      rcases this with rfl | rfl | rfl | rfl
      · exact ⟨1, rfl, by decide, by decide⟩
      · exact ⟨2, rfl, by decide, by decide⟩
      · exact ⟨20, rfl, by decide, by decide⟩
      · exact ⟨1000, rfl, by decide, by decide⟩
    refine ⟨l, _, i4, V.int sc, rfl, rfl, SqL.of (kd4 _ _ el0).1, hsc, ?_⟩
    refine ⟨_, rfl, st, _, 6, rfl, S4, by omega, by decide, by decide, fun ln H5 l0 l5 S5 kd5 => ?_⟩
    refine ⟨fun σ H' => StD H' st 10 ∧ ∃ z : Bool, σ = [some (.ref a), some (.ref st), some (.int hh), some (.int cn), some (.int sc), some (.int ln), some (.bl z), none, none, none, none, none, none, none, none, none, none, none], ?_, ?_⟩
    · refine ⟨_, rfl, st, _, 6, rfl, S5, by omega, by decide, by decide, fun q H6 q0 q1 S6 kd6 => ?_⟩
      exact ⟨rfl, S6.mono (by omega), _, rfl⟩
    rintro σ H6 ⟨S6, z, rfl⟩
    refine ⟨_, rfl, cn, rfl, by omega, by omega, fun D hD => lc_range (lo := 0) (n := cn.toNat) (fun j H' => StD H' st (10 + 6 * j) ∧ Kd st H6 H' ∧ ∃ (ps : List Addr) (cs : List (List Int)), Own st H' D (.lst (ps.map V.ref)) ∧ ps.length = j ∧ cs.length = j ∧ (∀ c ∈ cs, Small c ∧ c.length = hh.toNat) ∧ ∀ (i : Nat) (p : Addr) (c : List Int), ps[i]? = some p → cs[i]? = some c → Own st H' p (.lst (c.map V.int)) ∧ p ≠ D) ⟨S6.new hD, S6.kd hD, [], [], S6.own hD, rfl, rfl, (fun c hc => (by cases hc)), fun i p c e => (by simp at e)⟩ ?_ ?_⟩
    · rintro j H7 hj ⟨S7, kd7, ps, cs, ow7, hpl, hcl, hcs, hcol⟩
      refine ⟨rfl, ?_⟩
      refine ⟨_, rfl, hh, rfl, by omega, by omega, fun D2 hD2 => lc_range (lo := 0) (n := hh.toNat) (fun i H' => StD H' st (10 + 6 * j + i) ∧ Kd st H7 H' ∧ ∃ ms : List Int, ms.length = i ∧ Small ms ∧ Own st H' D2 (.lst (ms.map V.int))) ⟨S7.new hD2, S7.kd hD2, [], rfl, fun y hy => (by cases hy), S7.own hD2⟩ ?_ ?_⟩
      · rintro i H8 hi ⟨S8, kd8, ms, hml, hmb, ow8⟩
        refine ⟨rfl, ?_⟩
        refine ⟨_, rfl, _, rfl, _, _, rfl, rfl, .inl ⟨by decide, by decide⟩, _, _, rfl, rfl, st, _, _, rfl, S8, by omega, by omega, by omega, fun r H9 r0 r1 S9 kd9 => ?_⟩
        refine ⟨_, rfl, _, _, rfl, rfl, ?_⟩
        have ow9 := kd9 _ _ ow8
        refine ⟨_, ow9.1, ?_, (S9.put ow9).mono (by omega), fun b o h => ow9.put (kd9 _ _ (kd8 _ _ h)) (ne_of_none h.1 hD2), ms ++ [r - sc], ?_, ?_, ?_⟩
        · rw [List.length_map, hml]
          exact small1000 (by omega)
        · rw [List.length_append, hml]
          rfl
        · intro y hy
          rcases List.mem_append.mp hy with q | q
          · exact hmb y q
          · cases List.mem_singleton.mp q
            omega
        · rw [List.map_append]
          exact ow9.self
      · rintro H8 ⟨S8, kd8, ms, hml, hmb, ow8⟩
        have owD := kd8 _ _ ow7
        have hne : D2 ≠ D := (ne_of_none ow7.1 hD2).symm
        refine ⟨_, owD.1, ?_, (S8.put owD).mono (by omega), fun b o h => owD.put (kd8 _ _ (kd7 _ _ h)) (ne_of_none h.1 hD), ps ++ [D2], cs ++ [ms], ?_, ?_, ?_, ?_, ?_⟩
        · rw [List.length_map, hpl]
          exact small1000 (by omega)
        · rw [List.map_append]
          exact owD.self
        · rw [List.length_append, hpl]
          rfl
        · rw [List.length_append, hcl]
          rfl
        · intro c hc
          rcases List.mem_append.mp hc with q | q
          · exact hcs c q
          · cases List.mem_singleton.mp q
            exact ⟨hmb, hml⟩
        · refine cols_snoc (R := fun p c => Own st _ p (.lst (c.map V.int)) ∧ p ≠ D) (hpl.trans hcl.symm) (fun i p c e1 e2 => ?_) ⟨owD.put ow8 hne, hne⟩
          obtain ⟨g1, g2⟩ := hcol i p c e1 e2
          exact ⟨owD.put (kd8 _ _ g1) g2, g2⟩
    · rintro H7 ⟨S7, kd7, ps, cs, ow7, hpl, hcl, hcs, hcol⟩
      have TO : TabO st H7 D cs := ⟨ps, ow7, hpl.trans hcl.symm, fun i p c e1 e2 => (hcol i p c e1 e2).1⟩
      have e30 : ((10 : Int) ^ (30 : Int).toNat) + 1 = 1000000000000000000000000000001 := by decide
      refine ⟨_, _, rfl, rfl, ⟨by decide, by decide, by decide⟩, _, _, rfl, rfl, by show 4 ≤ sizeLine; decide, fun l4 hl4 => ?_⟩
      obtain ⟨g, hg⟩ : ∃ g : Int, g = (10 : Int) ^ (30 : Int).toNat + 1 := ⟨_, rfl⟩
      have hgb : g = 1000000000000000000000000000001 := hg.trans e30
      rw [show (fun i j => V.int (i + j)) ((10 : Int) ^ (30 : Int).toNat) 1 = V.int g by rw [hg]]
      have S7' := S7.new (o := .lst [V.int 1, V.int 1, V.int 1, V.int g]) hl4
      have kd7' := S7.kd (o := .lst [V.int 1, V.int 1, V.int 1, V.int g]) hl4
      have el4 := S7.own (o := .lst [V.int 1, V.int 1, V.int 1, V.int g]) hl4
      refine ⟨_, rfl, st, _, 4, rfl, S7', by omega, by decide, by decide, fun i8 H8 i80 i83 S8 kd8 => ?_⟩
      obtain ⟨fc, hfc, fcb⟩ : ∃ c : Int, atI [V.int 1, V.int 1, V.int 1, V.int g] i8 = some (V.int c) ∧ 1 ≤ c ∧ c ≤ g := by
        have : i8 = 0 ∨ i8 = 1 ∨ i8 = 2 ∨ i8 = 3 := by omega
        rcases this with rfl | rfl | rfl | rfl
        · exact ⟨1, rfl, by decide, by omega⟩
        · exact ⟨1, rfl, by decide, by omega⟩
        · exact ⟨1, rfl, by decide, by omega⟩
        · exact ⟨g, rfl, by omega, by omega⟩
      refine ⟨l4, _, i8, V.int fc, rfl, rfl, SqL.of (kd8 _ _ el4).1, hfc, ?_⟩
      have TO8 := (TO.kd kd7').kd kd8
      refine ⟨_, rfl, hh, rfl, by omega, by omega, fun D9 hD9 => lc_range (lo := 0) (n := hh.toNat) (fun i H' => StD H' st (60 + i) ∧ Kd st H8 H' ∧ ∃ xs : List Int, xs.length = i ∧ (∀ x ∈ xs, x.natAbs ≤ big) ∧ Own st H' D9 (.lst (xs.map V.int))) ⟨(S8.new hD9).mono (by omega), S8.kd hD9, [], rfl, (fun x hx => (by cases hx)), S8.own hD9⟩ ?_ ?_⟩
      · rintro i H9 hi ⟨S9, kd9, xs, hxl, hxb, ow9⟩
        refine ⟨rfl, ?_⟩
        refine ⟨_, rfl, _, rfl, st, _, 7, rfl, S9, by omega, by decide, by decide, fun r H10 r0 r1 S10 kd10 => ?_⟩
        refine ⟨_, _, rfl, rfl, _, _, rfl, rfl, .inr ⟨by omega, by omega⟩, ?_⟩
        have ow10 := kd10 _ _ ow9
        refine ⟨_, ow10.1, ?_, (S10.put ow10).mono (by omega), fun b o h => ow10.put (kd10 _ _ (kd9 _ _ h)) (ne_of_none h.1 hD9), xs ++ [fc * (r - 3)], ?_, ?_, ?_⟩
        · rw [List.length_map, hxl]
          exact small1000 (by omega)
        · rw [List.length_append, hxl]
          rfl
        · intro x hx
          rcases List.mem_append.mp hx with q | q
          · exact hxb x q
          · cases List.mem_singleton.mp q
            rw [Int.natAbs_mul]
            have h1 : fc.natAbs ≤ 10 ^ 30 + 1 := by omega
            have h2 : (r - 3).natAbs ≤ 3 := by omega
            exact Nat.le_trans (Nat.mul_le_mul h1 h2) (by decide)
        · rw [List.map_append]
          exact ow10.self
      · rintro H9 ⟨S9, kd9, xs, hxl, hxb, ow9⟩
        have TO9 := TO8.kd kd9
        refine ⟨fun σ H' => StD H' st 100 ∧ TabO st H' D cs ∧ ∃ (lr : Addr) (ys : List Int), ys.length = hh.toNat ∧ (∀ y ∈ ys, y.natAbs ≤ big) ∧ Own st H' lr (.lst (ys.map V.int)) ∧ σ = [some (.ref a), some (.ref st), some (.int hh), some (.int cn), some (.int sc), some (.int ln), some (.bl z), some (.ref D), none, none, some (.int fc), some (.ref lr), none, none, none, none, none, none], ?_, ?_⟩
        · refine ⟨_, rfl, z, rfl, ?_⟩
          cases z with
          | true =>
            refine iteT ?_
            refine ⟨by show 1 ≤ sizeLine; decide, fun l10 hl10 => ?_⟩
            have S10 := S9.new (o := .lst [V.int 0]) hl10
            have kd10 := S9.kd (o := .lst [V.int 0]) hl10
            refine ⟨_, rfl, l10, hh, _, rfl, rfl, upd_same, by omega, by omega, ?_, fun p hp => ?_⟩
            · show 1 * hh.toNat ≤ sizeLine
              exact Nat.le_of_lt (small1000 (by omega))
            · have er : (List.replicate hh.toNat [V.int 0]).flatten = (List.replicate hh.toNat (0 : Int)).map V.int := by
                generalize hh.toNat = n
                induction n with
                | zero => rfl
                | succ n ih =>
                  rw [List.replicate_succ, List.replicate_succ, List.flatten_cons, ih]
                  rfl
              rw [er]
              refine ⟨(S10.new hp).mono (by omega), (TO9.kd kd10).kd (S10.kd hp), p, List.replicate hh.toNat 0, List.length_replicate, fun y hy => ?_, S10.own hp, rfl⟩
              rw [List.eq_of_mem_replicate hy]
              exact Nat.zero_le _
          | false =>
            refine iteF ?_
            exact ⟨S9.mono (by omega), TO9, D9, xs, hxl, hxb, ow9, rfl⟩
        rintro σ H10 ⟨S10, TO10, lr, ys, hyl, hyb, ow10, rfl⟩
        have hcl' : cs.length ≤ 6 := by omega
        refine ⟨_, rfl, _, rfl, _, rfl, D, lr, cs, ys, rfl, TO10.tab, SqL.of ow10.1, hcl', by omega, fun c hc => ⟨(hcs c hc).1, (hcs c hc).2.trans hyl.symm⟩, fun D11 H11 hD11 s11 hD111 => ?_⟩
        obtain ⟨pr, hpr⟩ : ∃ pr, pr = (cs.map (dotI ys)).filter (· ≠ 0) := ⟨_, rfl⟩
        have hprl : pr.length ≤ 6 := by
          rw [hpr]
          refine Nat.le_trans (List.length_filter_le _ _) ?_
          rw [List.length_map]
          exact hcl'
        have hprb : ∀ n ∈ pr, n.natAbs ≤ 2 ^ 114 := by
          intro n hn
          rw [hpr] at hn
          obtain ⟨c, hc, rfl⟩ := List.mem_map.mp (List.mem_filter.mp hn).1
          exact dot_bd hyb (by omega) (hcs c hc).1
        rw [← hpr] at hD111
        have S11 := S10.same s11
        have kd11 := Kd.of_same S10 s11
        refine ⟨D11, pr, rfl, SqL.of hD111, hprl, fun D12 H12 hD12 s12 hD122 => ?_⟩
        have S12 := S11.same s12
        have kd12 := kd11.trans (Kd.of_same S11 s12)
        refine ⟨st, D12, _, _, rfl, S12, by omega, S11.fresh s12 hD12 hD122, ?_, ?_, fun b H13 hb S13 kd13 => ?_⟩
        · rw [tab_len]
          have : 2 ^ pr.length ≤ 2 ^ 6 := Nat.pow_le_pow_right (by decide) hprl
          omega
        · intro s hs
          have h1 := tab_bd hprb pr.length s hs
          have h6 : pr.length * 2 ^ 114 ≤ 6 * 2 ^ 114 := Nat.mul_le_mul_right _ hprl
          exact Nat.lt_of_le_of_lt (Nat.le_trans h1 h6) (by decide)
        have TO13 := (TO10.kd kd12).kd kd13
        have ow13 := kd13 _ _ (kd12 _ _ ow10)
        refine ⟨fun σ H' => StD H' st 200 ∧ ∃ (es : List (List Int)) (v : Option V), TabO st H' D es ∧ es.length ≤ 6 ∧ (∀ c ∈ es, Small c) ∧ Own st H' lr (.lst (ys.map V.int)) ∧ σ = [some (.ref a), some (.ref st), some (.int hh), some (.int cn), some (.int sc), some (.int ln), some (.bl z), some (.ref D), none, some (.int b), some (.int fc), some (.ref lr), v, none, none, none, none, none], ?_, ?_⟩
        · have keep : StD H13 st 200 ∧ ∃ (es : List (List Int)) (v : Option V), TabO st H13 D es ∧ es.length ≤ 6 ∧ (∀ c ∈ es, Small c) ∧ Own st H13 lr (.lst (ys.map V.int)) ∧ ([some (.ref a), some (.ref st), some (.int hh), some (.int cn), some (.int sc), some (.int ln), some (.bl z), some (.ref D), none, some (.int b), some (.int fc), some (.ref lr), none, none, none, none, none, none] : List (Option V)) = [some (.ref a), some (.ref st), some (.int hh), some (.int cn), some (.int sc), some (.int ln), some (.bl z), some (.ref D), none, some (.int b), some (.int fc), some (.ref lr), v, none, none, none, none, none] :=
            ⟨S13.mono (by omega), cs, none, TO13, hcl', fun c hc => (hcs c hc).1, ow13, rfl⟩
          refine ⟨_, rfl, rfl, _, rfl, ?_⟩
          refine ite2 (fun _ => ?_) (fun _ => ?_)
          · refine ⟨_, rfl, _, _, rfl, rfl, _, rfl, ?_⟩
            refine ite2 (fun hc0 => ?_) (fun _ => ?_)
            · have hc1 : cn > 0 := of_decide_eq_true hc0
              refine ⟨_, rfl, _, rfl, st, _, _, rfl, S13, by omega, by omega, by omega, fun sp H14 sp0 sp1 S14 kd14 => ?_⟩
              obtain ⟨ps', owD, hpl', hcol'⟩ := (TO13.kd kd14).ex
              have hk : sp.toNat < ps'.length := by omega
              have hk2 : sp.toNat < cs.length := by omega
              have gp : ps'[sp.toNat]? = some ps'[sp.toNat] := List.getElem?_eq_getElem hk
              have gc : cs[sp.toNat]? = some cs[sp.toNat] := List.getElem?_eq_getElem hk2
              have owp := hcol' _ _ _ gp gc
              refine ⟨_, rfl, _, rfl, D, _, sp, V.ref ps'[sp.toNat], rfl, rfl, SqL.of owD.1, atI_in sp0 (by rw [List.getElem?_map, gp]; rfl), ?_⟩
              refine ⟨by show 1 ≤ sizeLine; decide, fun l15 hl15 => ?_⟩
              have S15 := S14.new (o := .lst [V.int 0]) hl15
              have kd15 := S14.kd (o := .lst [V.int 0]) hl15
              have ow15 := S14.own (o := .lst [V.int 0]) hl15
              have hcm : cs[sp.toNat] ∈ cs := List.getElem_mem hk2
              refine ⟨_, l15, _, _, rfl, rfl, (kd15 _ _ owp).1, ow15.1, ?_, fun q hq => ?_⟩
              · rw [List.length_map, (hcs _ hcm).2]
                show hh.toNat + 1 ≤ sizeLine
                exact Nat.le_of_lt (small1000 (by omega))
              rw [show (cs[sp.toNat].map V.int ++ [V.int 0]) = (cs[sp.toNat] ++ [0]).map V.int by rw [List.map_append]; rfl]
              have S16 := S15.new (o := .lst ((cs[sp.toNat] ++ [0]).map V.int)) hq
              have kd16 := S15.kd (o := .lst ((cs[sp.toNat] ++ [0]).map V.int)) hq
              have ow16 := S15.own (o := .lst ((cs[sp.toNat] ++ [0]).map V.int)) hq
              have owD16 := kd16 _ _ (kd15 _ _ owD)
              obtain ⟨H16, hH16⟩ : ∃ H16, H16 = L2.upd (L2.upd H14 l15 (.lst [V.int 0])) q (.lst ((cs[sp.toNat] ++ [0]).map V.int)) := ⟨_, rfl⟩
              rw [← hH16] at S16 kd16 ow16 owD16 ⊢
              have hix : ixN (ps'.map V.ref).length sp = some sp.toNat := by
                unfold ixN
                rw [if_pos sp0, if_pos (by rw [List.length_map]; omega)]
              refine ⟨_, rfl, _, rfl, D, _, _, _, rfl, rfl, owD16.1, hix, ?_⟩
              rw [show (ps'.map V.ref).set sp.toNat (V.ref q) = (ps'.set sp.toNat q).map V.ref by rw [List.map_set]]
              have hqD : q ≠ D := col_ne (i := sp.toNat) owD16.1 ow16.1 hk
              refine ⟨(S16.put owD16).mono (by omega), cs.set sp.toNat (cs[sp.toNat] ++ [0]), some (.int sp), ⟨ps'.set sp.toNat q, owD16.self, by rw [List.length_set, List.length_set]; exact hpl', ?_⟩, by rw [List.length_set]; exact hcl', ?_, ?_, rfl⟩
              · refine cols_set (R := fun (p : Addr) (c : List Int) => Own st (L2.upd H16 D (.lst ((ps'.set sp.toNat q).map V.ref))) p (.lst (c.map V.int))) sp.toNat (fun j p c e1 e2 => ?_) (owD16.put ow16 hqD)
                have g := kd16 _ _ (kd15 _ _ (hcol' j p c e1 e2))
                exact owD16.put g (col_ne (i := sp.toNat) owD16.1 g.1 hk)
              · intro c hc
                rcases List.mem_or_eq_of_mem_set hc with e | e
                · exact (hcs c e).1
                · subst e
                  intro y hy
                  rcases List.mem_append.mp hy with e | e
                  · exact (hcs _ hcm).1 y e
                  · cases List.mem_singleton.mp e; decide
              · have g := kd16 _ _ (kd15 _ _ (kd14 _ _ ow13))
                exact owD16.put g (col_ne (i := sp.toNat) owD16.1 g.1 hk)
            · exact keep
          · exact keep
        rintro σ H14 ⟨S14, es, v, TO14, hel, hes, ow14, rfl⟩
        refine ⟨fun σ H' => StD H' st 300 ∧ ∃ (lz : Addr) (zs : List Int), TabO st H' D es ∧ Own st H' lz (.lst (zs.map V.int)) ∧ zs.length ≤ 6 ∧ (∀ y ∈ zs, y.natAbs ≤ big) ∧ σ = [some (.ref a), some (.ref st), some (.int hh), some (.int cn), some (.int sc), some (.int ln), some (.bl z), some (.ref D), none, some (.int b), some (.int fc), some (.ref lz), v, none, none, none, none, none], ?_, ?_⟩
        · refine ⟨_, rfl, rfl, _, rfl, ?_⟩
          refine ite2 (fun _ => ?_) (fun _ => ?_)
          · refine ⟨_, rfl, by show 1 ≤ sizeLine; decide, fun l15 hl15 => ?_⟩
            have S15 := S14.new (o := .lst [V.int 0]) hl15
            have kd15 := S14.kd (o := .lst [V.int 0]) hl15
            have ow15 := S14.own (o := .lst [V.int 0]) hl15
            refine ⟨lr, l15, _, _, rfl, rfl, (kd15 _ _ ow14).1, ow15.1, ?_, fun q hq => ?_⟩
            · rw [List.length_map, hyl]
              show hh.toNat + 1 ≤ sizeLine
              exact Nat.le_of_lt (small1000 (by omega))
            rw [show (ys.map V.int ++ [V.int 0]) = (ys ++ [0]).map V.int by rw [List.map_append]; rfl]
            refine ⟨(S15.new hq).mono (by omega), q, ys ++ [0], (TO14.kd kd15).kd (S15.kd hq), S15.own hq, ?_, fun y hy => ?_, rfl⟩
            · rw [List.length_append, hyl]
              show hh.toNat + 1 ≤ 6
              omega
            · rcases List.mem_append.mp hy with e | e
              · exact hyb y e
              · cases List.mem_singleton.mp e; exact Nat.zero_le _
          · exact ⟨S14.mono (by omega), lr, ys, TO14, ow14, by omega, hyb, rfl⟩
        rintro σ H15 ⟨S15, lz, zs, TO15, ow15, hzl, hzb, rfl⟩
        have hdot : ∀ c ∈ es, (dotI zs c).natAbs ≤ 2 ^ 114 := fun c hc => dot_bd hzb hzl (hes c hc)
        have hT := TO15.tab (K := K)
        obtain ⟨ps, hps, hpl, hcol⟩ := hT.ex
        have hZ : SqL K H15 lz (zs.map V.int) := SqL.of ow15.1
        have eqr : PyData.eqv (.list (rowsD es)) (.list (rowsD es)) = true := SeqAt.eqv_refl _ (SeqAt.canLay_of_shaped (rowsL_shaped es))
        refine ⟨_, rfl, D, rfl, ⟨_, hps⟩, fun D2 hD2 => lc_list (K := K) (a := D) (xs := ps.map V.ref) (fun j H' => Same H15 H' ∧ ∃ qs : List Addr, H' D2 = some (.lst (qs.map V.ref)) ∧ qs.length = (es.take j).length ∧ ∀ (i : Nat) (q : Addr) (c : List Int), qs[i]? = some q → (es.take j)[i]? = some c → H' q = some (.lst (c.map V.int)) ∧ q ≠ D2) ⟨sameUpd (Same.refl _) hD2, [], upd_same, rfl, fun i q c e => (by simp at e)⟩ (fun j H' _ h => h.1.seq hps) ?_ ?_⟩
        · rintro j x H' hj ⟨s1, qs, hD22, hql, hqc⟩
          obtain ⟨p, hp, rfl⟩ := ref_at hj
          obtain ⟨c, hc⟩ := col_at hpl hp
          have hjl := (List.getElem?_eq_some_iff.mp hc).1
          refine ⟨rfl, ?_⟩
          refine ⟨_, rfl, p, _, rfl, .inl (s1.seq (hcol j p c hp hc)), fun q hq => ?_⟩
          have hqD : q ≠ D2 := (ne_of_none hD22 hq).symm
          refine ⟨_, by rw [upd_ne hqD.symm]; exact hD22, ?_, same_put (sameUpd s1 (s1.free hq)) hD2, qs ++ [q], ?_, ?_, ?_⟩
          · rw [List.length_map, hql, List.length_take]
            exact small1000 (by omega)
          · rw [upd_same, List.map_append]
            rfl
          · rw [List.length_append, hql, List.take_succ, hc, List.length_append]
            rfl
          · rw [List.take_succ, hc]
            refine cols_snoc (R := fun (q : Addr) (c : List Int) => L2.upd (L2.upd H' _ _) D2 _ q = some (.lst (c.map V.int)) ∧ q ≠ D2) hql (fun i q' c' e1 e2 => ?_) ⟨?_, hqD⟩
            · obtain ⟨g1, g2⟩ := hqc i q' c' e1 e2
              exact ⟨by rw [upd_ne g2, upd_ne (ne_of_none g1 hq)]; exact g1, g2⟩
            · rw [upd_ne hqD, upd_same]
        rintro H16 ⟨s16, qs, hD22, hql, hqc⟩
        rw [List.length_map, hpl, List.take_length] at hql hqc
        have hTP : Tab K .l H16 D2 es := ⟨qs, SqL.of hD22, hql, fun i q c e1 e2 => SqL.of (hqc i q c e1 e2).1⟩
        refine ⟨_, rfl, _, rfl, _, rfl, D, lz, es, zs, b, rfl, hT.same s16, s16.seq hZ, hel, by omega, hes, hdot, hb, fun H17 s17 => ?_⟩
        have s27 := s16.trans s17
        obtain ⟨ck, hck⟩ : ∃ ck, ck = ckB es zs b := ⟨_, rfl⟩
        rw [← hck]
        refine ⟨_, rfl, _, rfl, lz, _, rfl, .inl ⟨s27.seq hZ, fun T hT2 => ?_⟩⟩
        have s8 := sameUpd (o := .tup (zs.map V.int)) (Same.refl H17) hT2
        refine ⟨_, rfl, .t, .l, D2, T, es, zs, b, rfl, (hTP.same s17).same s8, SqT.of upd_same, hel, by omega, hes, fun H18 s18 => ?_⟩
        rw [← hck]
        have s1718 := s8.trans s18
        have s28 := s27.trans s1718
        have hTP8 := (hTP.same s17).same s1718
        have hT8 := hT.same s28
        refine ⟨fun σ H' => H' = H18 ∧ σ = [some (.ref a), some (.ref st), some (.int hh), some (.int cn), some (.int sc), some (.int ln), some (.bl z), some (.ref D), none, some (.int b), some (.int fc), some (.ref lz), v, some (.ref D2), none, some (.bl ck), some (.bl ck), none], ?_, ?_⟩
        · obtain ⟨p1, a1, a2, a3⟩ := hTP8.ex
          obtain ⟨p2, b1, b2, b3⟩ := hT8.ex
          refine ⟨_, rfl, _, rfl, _, _, .lst a1 (rows_dp p1 es a2 a3), .lst b1 (rows_dp p2 es b2 b3), rowsL_shaped es, rowsL_shaped es, _, rfl, ?_⟩
          rw [eqr]
          refine iteF ?_
          refine ⟨_, rfl, _, _, _, _, true, rfl, .ty "bool", .base (.bl ck), kit_ty (by decide +kernel), true, rfl, ?_⟩
          refine iteF ?_
          refine ⟨_, rfl, _, rfl, rfl, _, rfl, ?_⟩
          have e0 : decide (V.bl ck = V.bl ck) = true := decide_eq_true rfl
          rw [e0]
          refine iteF ?_
          exact ⟨rfl, rfl⟩
        rintro σ H' ⟨rfl, rfl⟩
        refine ⟨_, rfl, _, rfl, lz, _, rfl, .inl (s28.seq hZ), fun q9 hq9 => ?_⟩
        have s9 := sameUpd (o := .lst (zs.map V.int)) (Same.refl H') hq9
        obtain ⟨H19, hH19⟩ : ∃ H19, H19 = L2.upd H' q9 (.lst (zs.map V.int)) := ⟨_, rfl⟩
        have hq19 : H19 q9 = some (.lst (zs.map V.int)) := by rw [hH19]; exact upd_same
        rw [← hH19] at s9 ⊢
        have s29 := s28.trans s9
        refine ⟨_, rfl, D, rfl, ⟨_, s29.seq hps⟩, fun D3 hD3 => lc_list (K := K) (a := D) (xs := ps.map V.ref) (fun j H' => Same H19 H' ∧ ∃ qs : List Addr, H' D3 = some (.lst (qs.map V.ref)) ∧ qs.length = (es.take j).length ∧ ∀ (i : Nat) (q : Addr) (c : List Int), qs[i]? = some q → (es.take j)[i]? = some c → H' q = some (.tup (c.map V.int)) ∧ q ≠ D3) ⟨sameUpd (Same.refl _) hD3, [], upd_same, rfl, fun i q c e => (by simp at e)⟩ (fun j H' _ h => h.1.seq (s29.seq hps)) ?_ ?_⟩
        · rintro j x H' hj ⟨s1, qs, hD33, hql, hqc⟩
          obtain ⟨p, hp, rfl⟩ := ref_at hj
          obtain ⟨c, hc⟩ := col_at hpl hp
          have hjl := (List.getElem?_eq_some_iff.mp hc).1
          refine ⟨rfl, ?_⟩
          refine ⟨_, rfl, p, _, rfl, .inl ⟨s1.seq (s29.seq (hcol j p c hp hc)), fun q hq => ?_⟩⟩
          have hqD : q ≠ D3 := (ne_of_none hD33 hq).symm
          refine ⟨_, by rw [upd_ne hqD.symm]; exact hD33, ?_, same_put (sameUpd s1 (s1.free hq)) hD3, qs ++ [q], ?_, ?_, ?_⟩
          · rw [List.length_map, hql, List.length_take]
            exact small1000 (by omega)
          · rw [upd_same, List.map_append]
            rfl
          · rw [List.length_append, hql, List.take_succ, hc, List.length_append]
            rfl
          · rw [List.take_succ, hc]
            refine cols_snoc (R := fun (q : Addr) (c : List Int) => L2.upd (L2.upd H' _ _) D3 _ q = some (.tup (c.map V.int)) ∧ q ≠ D3) hql (fun i q' c' e1 e2 => ?_) ⟨?_, hqD⟩
            · obtain ⟨g1, g2⟩ := hqc i q' c' e1 e2
              exact ⟨by rw [upd_ne g2, upd_ne (ne_of_none g1 hq)]; exact g1, g2⟩
            · rw [upd_ne hqD, upd_same]
        rintro H20 ⟨s20, ts, hD33, htl, htc⟩
        rw [List.length_map, hpl, List.take_length] at htl htc
        refine ⟨rfl, .l, .t, D3, q9, es, zs, b, rfl, ⟨ts, SqL.of hD33, htl, fun i q c e1 e2 => SqT.of (htc i q c e1 e2).1⟩, SqL.of (s20 _ _ hq19), hel, by omega, hes, fun H21 s21 => ?_⟩
        rw [← hck]
        cases ck with
        | true =>
          refine ⟨_, rfl, true, true, rfl, rfl, true, rfl, ?_⟩
          refine iteT ?_
          refine ⟨_, rfl, true, rfl, ?_⟩
          exact k _
        | false =>
          refine ⟨_, rfl, false, true, rfl, rfl, false, rfl, ?_⟩
          refine iteF ?_
          refine ⟨false, rfl, ?_⟩
          refine iteF ?_
          refine ⟨_, rfl, false, false, rfl, rfl, true, rfl, ?_⟩
          refine iteT ?_
          refine ⟨_, rfl, false, rfl, ?_⟩
          exact k _
end
end OS
namespace OS
open PySem L2
theorem all_mk {l : PySem.W.OpenLaw} {w : World} {K : PySem.W.Frag} {h : Heap} {mg : Str → Option Value} {fa f1 f2 f3 f4 f5 f6 f7 f8 f9 f10 f11 f12 f13 f14 f15 : Addr} (X : K.In h) (G : h.Ns mainGlobals mg) (hfa : mg "law" = some (.ref fa))
    {od1 an1 od2 an2 od3 an3 od4 an4 od5 an5 od6 an6 od7 an7 od8 an8 od9 an9 od10 an10 od11 an11 od12 an12 od13 an13 od14 an14 od15 an15 : Option Addr} {sl1 sl2 sl3 sl4 sl5 sl6 sl7 sl8 sl9 sl10 sl11 sl12 sl13 sl14 sl15 : Array (Option Value)} {oc1 kV1 dc1 pm1 cd1 ct1 oc2 kV2 dc2 pm2 cd2 ct2 oc3 kV3 dc3 pm3 cd3 ct3 oc4 kV4 dc4 pm4 cd4 ct4 oc5 kV5 dc5 pm5 cd5 ct5 oc6 kV6 dc6 pm6 cd6 ct6 oc7 kV7 dc7 pm7 cd7 ct7 oc8 kV8 dc8 pm8 cd8 ct8 oc9 kV9 dc9 pm9 cd9 ct9 oc10 kV10 dc10 pm10 cd10 ct10 oc11 kV11 dc11 pm11 cd11 ct11 oc12 kV12 dc12 pm12 cd12 ct12 oc13 kV13 dc13 pm13 cd13 ct13 oc14 kV14 dc14 pm14 cd14 ct14 oc15 kV15 dc15 pm15 cd15 ct15 : Value} 
    (aG : PySem.W.nsIn K mainGlobals "gcd" = some (some (.builtin "math.gcd")))
    (a1 : PySem.W.nsIn K mainGlobals "_law_start" = some (some (.ref f1)))
    (l1 : K.lookup f1 = some ⟨oc1, od1, .func (PySem.W.fnOf "_law_start" "_law_start" (defArgs sStart) (defBody sStart) (defScope sStart) .none kV1 dc1 pm1 an1 cd1 ct1), sl1⟩)
    (c1 : PySem.W.codeIn K cd1 "_law_start" = true)
    (k1 : PySem.W.keepIn K (.ref f1) = true)
    (a2 : PySem.W.nsIn K mainGlobals "_law_draw" = some (some (.ref f2)))
    (l2 : K.lookup f2 = some ⟨oc2, od2, .func (PySem.W.fnOf "_law_draw" "_law_draw" (defArgs s_draw) (defBody s_draw) (defScope s_draw) .none kV2 dc2 pm2 an2 cd2 ct2), sl2⟩)
    (c2 : PySem.W.codeIn K cd2 "_law_draw" = true)
    (k2 : PySem.W.keepIn K (.ref f2) = true)
    (a3 : PySem.W.nsIn K mainGlobals "_law_prime" = some (some (.ref f3)))
    (l3 : K.lookup f3 = some ⟨oc3, od3, .func (PySem.W.fnOf "_law_prime" "_law_prime" (defArgs s_prime) (defBody s_prime) (defScope s_prime) .none kV3 dc3 pm3 an3 cd3 ct3), sl3⟩)
    (c3 : PySem.W.codeIn K cd3 "_law_prime" = true)
    (k3 : PySem.W.keepIn K (.ref f3) = true)
    (a4 : PySem.W.nsIn K mainGlobals "_law_sums" = some (some (.ref f4)))
    (l4 : K.lookup f4 = some ⟨oc4, od4, .func (PySem.W.fnOf "_law_sums" "_law_sums" (defArgs s_sums) (defBody s_sums) (defScope s_sums) .none kV4 dc4 pm4 an4 cd4 ct4), sl4⟩)
    (c4 : PySem.W.codeIn K cd4 "_law_sums" = true)
    (k4 : PySem.W.keepIn K (.ref f4) = true)
    (a5 : PySem.W.nsIn K mainGlobals "_law_base" = some (some (.ref f5)))
    (l5 : K.lookup f5 = some ⟨oc5, od5, .func (PySem.W.fnOf "_law_base" "_law_base" (defArgs s_base) (defBody s_base) (defScope s_base) .none kV5 dc5 pm5 an5 cd5 ct5), sl5⟩)
    (c5 : PySem.W.codeIn K cd5 "_law_base" = true)
    (k5 : PySem.W.keepIn K (.ref f5) = true)
    (a6 : PySem.W.nsIn K mainGlobals "_law_divisor" = some (some (.ref f6)))
    (l6 : K.lookup f6 = some ⟨oc6, od6, .func (PySem.W.fnOf "_law_divisor" "_law_divisor" (defArgs s_divisor) (defBody s_divisor) (defScope s_divisor) .none kV6 dc6 pm6 an6 cd6 ct6), sl6⟩)
    (c6 : PySem.W.codeIn K cd6 "_law_divisor" = true)
    (k6 : PySem.W.keepIn K (.ref f6) = true)
    (a7 : PySem.W.nsIn K mainGlobals "_law_products" = some (some (.ref f7)))
    (l7 : K.lookup f7 = some ⟨oc7, od7, .func (PySem.W.fnOf "_law_products" "_law_products" (defArgs s_products) (defBody s_products) (defScope s_products) .none kV7 dc7 pm7 an7 cd7 ct7), sl7⟩)
    (c7 : PySem.W.codeIn K cd7 "_law_products" = true)
    (k7 : PySem.W.keepIn K (.ref f7) = true)
    (a8 : PySem.W.nsIn K mainGlobals "_law_expected" = some (some (.ref f8)))
    (l8 : K.lookup f8 = some ⟨oc8, od8, .func (PySem.W.fnOf "_law_expected" "_law_expected" (defArgs s_expected) (defBody s_expected) (defScope s_expected) .none kV8 dc8 pm8 an8 cd8 ct8), sl8⟩)
    (c8 : PySem.W.codeIn K cd8 "_law_expected" = true)
    (k8 : PySem.W.keepIn K (.ref f8) = true)
    (a9 : PySem.W.nsIn K mainGlobals "_law_chosen_base" = some (some (.ref f9)))
    (l9 : K.lookup f9 = some ⟨oc9, od9, .func (PySem.W.fnOf "_law_chosen_base" "_law_chosen_base" (defArgs s_chosen_base) (defBody s_chosen_base) (defScope s_chosen_base) .none kV9 dc9 pm9 an9 cd9 ct9), sl9⟩)
    (c9 : PySem.W.codeIn K cd9 "_law_chosen_base" = true)
    (k9 : PySem.W.keepIn K (.ref f9) = true)
    (a10 : PySem.W.nsIn K mainGlobals "common_divisor" = some (some (.ref f10)))
    (l10 : K.lookup f10 = some ⟨oc10, od10, .func (PySem.W.fnOf "common_divisor" "common_divisor" (defArgs s_common_divisor) (defBody s_common_divisor) (defScope s_common_divisor) .none kV10 dc10 pm10 an10 cd10 ct10), sl10⟩)
    (c10 : PySem.W.codeIn K cd10 "common_divisor" = true)
    (k10 : PySem.W.keepIn K (.ref f10) = true)
    (a11 : PySem.W.nsIn K mainGlobals "dot_product" = some (some (.ref f11)))
    (l11 : K.lookup f11 = some ⟨oc11, od11, .func (PySem.W.fnOf "dot_product" "dot_product" (defArgs s_dot_product) (defBody s_dot_product) (defScope s_dot_product) .none kV11 dc11 pm11 an11 cd11 ct11), sl11⟩)
    (c11 : PySem.W.codeIn K cd11 "dot_product" = true)
    (k11 : PySem.W.keepIn K (.ref f11) = true)
    (a12 : PySem.W.nsIn K mainGlobals "partial_sums" = some (some (.ref f12)))
    (l12 : K.lookup f12 = some ⟨oc12, od12, .func (PySem.W.fnOf "partial_sums" "partial_sums" (defArgs s_partial_sums) (defBody s_partial_sums) (defScope s_partial_sums) .none kV12 dc12 pm12 an12 cd12 ct12), sl12⟩)
    (c12 : PySem.W.codeIn K cd12 "partial_sums" = true)
    (k12 : PySem.W.keepIn K (.ref f12) = true)
    (a13 : PySem.W.nsIn K mainGlobals "_shares_divisor" = some (some (.ref f13)))
    (l13 : K.lookup f13 = some ⟨oc13, od13, .func (PySem.W.fnOf "_shares_divisor" "_shares_divisor" (defArgs s_shares_divisor) (defBody s_shares_divisor) (defScope s_shares_divisor) .none kV13 dc13 pm13 an13 cd13 ct13), sl13⟩)
    (c13 : PySem.W.codeIn K cd13 "_shares_divisor" = true)
    (k13 : PySem.W.keepIn K (.ref f13) = true)
    (a14 : PySem.W.nsIn K mainGlobals "check_split" = some (some (.ref f14)))
    (l14 : K.lookup f14 = some ⟨oc14, od14, .func (PySem.W.fnOf "check_split" "check_split" (defArgs s_check_split) (defBody s_check_split) (defScope s_check_split) .none kV14 dc14 pm14 an14 cd14 ct14), sl14⟩)
    (c14 : PySem.W.codeIn K cd14 "check_split" = true)
    (k14 : PySem.W.keepIn K (.ref f14) = true)
    (a15 : PySem.W.nsIn K mainGlobals "law" = some (some (.ref f15)))
    (l15 : K.lookup f15 = some ⟨oc15, od15, .func (PySem.W.fnOf "law" "law" (defArgs sLaw) (defBody sLaw) (defScope sLaw) .none kV15 dc15 pm15 an15 cd15 ct15), sl15⟩)
    (c15 : PySem.W.codeIn K cd15 "law" = true)
    (k15 : PySem.W.keepIn K (.ref f15) = true)
    (z_len : PySem.W.nsIn K mainGlobals "len" = some none)
    (z_int : PySem.W.nsIn K mainGlobals "int" = some none)
    (z_abs : PySem.W.nsIn K mainGlobals "abs" = some none)
    (z_list : PySem.W.nsIn K mainGlobals "list" = some none)
    (z_range : PySem.W.nsIn K mainGlobals "range" = some none)
    (z_isinstance : PySem.W.nsIn K mainGlobals "isinstance" = some none)
    (z_bool : PySem.W.nsIn K mainGlobals "bool" = some none)
    (z_tuple : PySem.W.nsIn K mainGlobals "tuple" = some none)
    (z_sum : PySem.W.nsIn K mainGlobals "sum" = some none)
    (z_any : PySem.W.nsIn K mainGlobals "any" = some none)
    (z_zip : PySem.W.nsIn K mainGlobals "zip" = some none) :
    ∃ fd : FuncData, (∀ (s : Shared) (v : Value), BindsTo s fd ⟨[v], []⟩ [("_law_script", v)]) ∧ ∀ base : Heap, K.In base → base.Ns mainGlobals mg → FnOk l.prog w K mg base CX0 4 fa fd ["_law_script"] (spLaw K) := by
  have e := hfa.symm.trans (PySem.W.mg_of X G a15)
  cases e
  have F1 := fun_mk (st := sStart) l1 c1 k1
  have b1 := F1.binds (ps := ["_law_script"]) fun _ _ _ _ _ _ us hl => match us, hl with | [_], _ => rfl
  have F2 := fun_mk (st := s_draw) l2 c2 k2
  have b2 := F2.binds (ps := ["_law_state", "_law_size"]) fun _ _ _ _ _ _ us hl => match us, hl with | [_, _], _ => rfl
  have F3 := fun_mk (st := s_prime) l3 c3 k3
  have b3 := F3.binds (ps := ["_law_number"]) fun _ _ _ _ _ _ us hl => match us, hl with | [_], _ => rfl
  have F4 := fun_mk (st := s_sums) l4 c4 k4
  have b4 := F4.binds (ps := ["_law_numbers"]) fun _ _ _ _ _ _ us hl => match us, hl with | [_], _ => rfl
  have F5 := fun_mk (st := s_base) l5 c5 k5
  have b5 := F5.binds (ps := ["_law_sums_here"]) fun _ _ _ _ _ _ us hl => match us, hl with | [_], _ => rfl
  have F6 := fun_mk (st := s_divisor) l6 c6 k6
  have b6 := F6.binds (ps := ["_law_first", "_law_second"]) fun _ _ _ _ _ _ us hl => match us, hl with | [_, _], _ => rfl
  have F7 := fun_mk (st := s_products) l7 c7 k7
  have b7 := F7.binds (ps := ["_law_table", "_law_line"]) fun _ _ _ _ _ _ us hl => match us, hl with | [_, _], _ => rfl
  have F8 := fun_mk (st := s_expected) l8 c8 k8
  have b8 := F8.binds (ps := ["_law_table", "_law_line", "_law_number"]) fun _ _ _ _ _ _ us hl => match us, hl with | [_, _, _], _ => rfl
  have F9 := fun_mk (st := s_chosen_base) l9 c9 k9
  have b9 := F9.binds (ps := ["_law_state", "_law_sums_here"]) fun _ _ _ _ _ _ us hl => match us, hl with | [_, _], _ => rfl
  have F10 := fun_mk (st := s_common_divisor) l10 c10 k10
  have b10 := F10.binds (ps := ["first", "second"]) fun _ _ _ _ _ _ us hl => match us, hl with | [_, _], _ => rfl
  have F11 := fun_mk (st := s_dot_product) l11 c11 k11
  have b11 := F11.binds (ps := ["row", "column"]) fun _ _ _ _ _ _ us hl => match us, hl with | [_, _], _ => rfl
  have F12 := fun_mk (st := s_partial_sums) l12 c12 k12
  have b12 := F12.binds (ps := ["numbers"]) fun _ _ _ _ _ _ us hl => match us, hl with | [_], _ => rfl
  have F13 := fun_mk (st := s_shares_divisor) l13 c13 k13
  have b13 := F13.binds (ps := ["base", "numbers"]) fun _ _ _ _ _ _ us hl => match us, hl with | [_, _], _ => rfl
  have F14 := fun_mk (st := s_check_split) l14 c14 k14
  have b14 := F14.binds (ps := ["columns", "row", "base"]) fun _ _ _ _ _ _ us hl => match us, hl with | [_, _, _], _ => rfl
  have F15 := fun_mk (st := sLaw) l15 c15 k15
  have mz_len := PySem.W.mg_none_of X G z_len
  have mz_int := PySem.W.mg_none_of X G z_int
  have mz_abs := PySem.W.mg_none_of X G z_abs
  have mz_list := PySem.W.mg_none_of X G z_list
  have mz_range := PySem.W.mg_none_of X G z_range
  have mz_isinstance := PySem.W.mg_none_of X G z_isinstance
  have mz_bool := PySem.W.mg_none_of X G z_bool
  have mz_tuple := PySem.W.mg_none_of X G z_tuple
  have mz_sum := PySem.W.mg_none_of X G z_sum
  have mz_any := PySem.W.mg_none_of X G z_any
  have mz_zip := PySem.W.mg_none_of X G z_zip
  have G1 : Df K mg "_law_start" f1 := ⟨PySem.W.mg_of X G a1, k1⟩
  have G2 : Df K mg "_law_draw" f2 := ⟨PySem.W.mg_of X G a2, k2⟩
  have G3 : Df K mg "_law_prime" f3 := ⟨PySem.W.mg_of X G a3, k3⟩
  have G4 : Df K mg "_law_sums" f4 := ⟨PySem.W.mg_of X G a4, k4⟩
  have G5 : Df K mg "_law_base" f5 := ⟨PySem.W.mg_of X G a5, k5⟩
  have G6 : Df K mg "_law_divisor" f6 := ⟨PySem.W.mg_of X G a6, k6⟩
  have G7 : Df K mg "_law_products" f7 := ⟨PySem.W.mg_of X G a7, k7⟩
  have G8 : Df K mg "_law_expected" f8 := ⟨PySem.W.mg_of X G a8, k8⟩
  have G9 : Df K mg "_law_chosen_base" f9 := ⟨PySem.W.mg_of X G a9, k9⟩
  have G10 : Df K mg "common_divisor" f10 := ⟨PySem.W.mg_of X G a10, k10⟩
  have G11 : Df K mg "dot_product" f11 := ⟨PySem.W.mg_of X G a11, k11⟩
  have G12 : Df K mg "partial_sums" f12 := ⟨PySem.W.mg_of X G a12, k12⟩
  have G13 : Df K mg "_shares_divisor" f13 := ⟨PySem.W.mg_of X G a13, k13⟩
  have G14 : Df K mg "check_split" f14 := ⟨PySem.W.mg_of X G a14, k14⟩
  have T : BiD mg := ⟨mz_len, mz_int, mz_abs, mz_list⟩
  have TL : BiL mg := ⟨mz_isinstance, mz_bool, mz_tuple⟩
  have mG : mg "gcd" = some (.builtin "math.gcd") := PySem.W.mg_of X G aG
  have kc := kb_of (ps := ["columns", "row", "base"]) F14 0 ["base", "row", "columns"] (fun us ws => us ++ ws.reverse) (fun r1 r2 => r1.append r2.reverse) fun _ _ _ _ _ _ us ws h1 h2 => match us, ws, h1, h2 with | [], [_, _, _], _, _ => rfl
  refine ⟨PySem.W.fnOf "law" "law" (defArgs sLaw) (defBody sLaw) (defScope sLaw) .none kV15 dc15 pm15 an15 cd15 ct15, fun s v => .of_eq rfl, fun base _ _ => ?_⟩
  have E1 := ok_startD (P := l.prog) (w := w) (base := base) F1 T
  have E2 := ok_draw (P := l.prog) (w := w) (base := base) F2 T
  have E3 := ok_pr (P := l.prog) (w := w) (base := base) F3 mz_range mz_int
  have E4 := ok_sm (P := l.prog) (w := w) (base := base) F4 mz_range mz_len mz_sum
  have E5 := ok_bs F5 mz_int E3 G3 b3
  have E6 := ok_dv (P := l.prog) (w := w) (base := base) F6 T
  have E7 := ok_pd (P := l.prog) (w := w) (base := base) F7 mz_sum mz_range mz_len
  have E8 := ok_ex F8 mz_len E7 G7 b7 E4 G4 b4 E6 G6 b6
  have E9 := ok_cb F9 T E2 G2 b2 E5 G5 b5
  have E10 := ok_cd (P := l.prog) (w := w) (base := base) F10 mG
  have E11 := ok_dot (P := l.prog) (w := w) (base := base) F11 mz_sum mz_zip
  have E12 := ok_ps (P := l.prog) (w := w) (mg := mg) (base := base) F12
  have E13 := ok_sh F13 E10 G10 b10
  have E14 := ok_ck F14 mz_any mz_len E11 G11 b11 E12 G12 b12 E13 G13 b13
  exact ok_law F15 mz_range T TL E1 G1 b1 E2 G2 b2 E7 G7 b7 E4 G4 b4 E9 G9 b9 E8 G8 b8 E14 G14 b14 kc
theorem walk {l : PySem.W.OpenLaw} {q : Program} {loose : List Str} {XP : (Str → Option Value) → Heap → Prop} {YP : World → Heap → Prop} {d : DefRec} {K : Params → PySem.W.Frag} (hn : l.most = some 63) (hdf : d.params.defaults = [])
    (hY : ∀ (w : World) (h : Heap), YP w h → (K w.params).In h)
    (F : ∀ (w : World) (mg : Str → Option Value) (fa : Addr) (h : Heap), (K w.params).In h → h.Ns mainGlobals mg → mg d.name = some (.ref fa) →
      ∃ fd : FuncData, (∀ (s : Shared) (u : Value), BindsTo s fd ⟨[u], []⟩ [("_law_script", u)]) ∧ ∀ base : Heap, (K w.params).In base → base.Ns mainGlobals mg → FnOk l.prog w (K w.params) mg base CX0 4 fa fd ["_law_script"] (spLaw (K w.params))) :
    PySem.W.WalkO q loose XP YP l.row.toRowW d [] (fun f vs => PySem.call f vs) :=
  L2.walk_of (n := 63) (k := 4) (x := "_law_script") (CX := fun _ => CX0) (sp := fun w => spLaw (K w.params)) hn (by decide) hdf ⟨rfl, by decide, by decide⟩ hY F (fun _ _ a ns hl _ hS => ⟨a, ns, rfl, hS, hl, fun _ => rfl⟩) fun _ _ _ _ _ z => z
end OS
open PySem PySem.W PyProof.Rows
set_option maxRecDepth 100000 in
set_option maxHeartbeats 0 in
theorem PySem.Challenge.cw_oneshard_k42_check_split_holds : PySem.Challenge.rw_oneshard_k42_check_split.Holds := by
  w_on; o_law; k_head; (case hw => w_witness2)
  k_fill
  refine OS.walk (l := PySem.Challenge.rw_oneshard_k42_check_split) rfl rfl (fun w h Y => PySem.W.kIn_of Y) ?F
  case F =>
    intro w mg fa h KX G hmg
    refine' OS.all_mk KX G hmg ?aG ?a1 ?l1 ?c1 ?k1 ?a2 ?l2 ?c2 ?k2 ?a3 ?l3 ?c3 ?k3 ?a4 ?l4 ?c4 ?k4 ?a5 ?l5 ?c5 ?k5 ?a6 ?l6 ?c6 ?k6 ?a7 ?l7 ?c7 ?k7 ?a8 ?l8 ?c8 ?k8 ?a9 ?l9 ?c9 ?k9 ?a10 ?l10 ?c10 ?k10 ?a11 ?l11 ?c11 ?k11 ?a12 ?l12 ?c12 ?k12 ?a13 ?l13 ?c13 ?k13 ?a14 ?l14 ?c14 ?k14 ?a15 ?l15 ?c15 ?k15 ?z_len ?z_int ?z_abs ?z_list ?z_range ?z_isinstance ?z_bool ?z_tuple ?z_sum ?z_any ?z_zip
    (case aG => k_is)
    (case a1 => k_is)
    (case l1 => k_is)
    (case c1 => k_is)
    (case k1 => k_is)
    (case a2 => k_is)
    (case l2 => k_is)
    (case c2 => k_is)
    (case k2 => k_is)
    (case a3 => k_is)
    (case l3 => k_is)
    (case c3 => k_is)
    (case k3 => k_is)
    (case a4 => k_is)
    (case l4 => k_is)
    (case c4 => k_is)
    (case k4 => k_is)
    (case a5 => k_is)
    (case l5 => k_is)
    (case c5 => k_is)
    (case k5 => k_is)
    (case a6 => k_is)
    (case l6 => k_is)
    (case c6 => k_is)
    (case k6 => k_is)
    (case a7 => k_is)
    (case l7 => k_is)
    (case c7 => k_is)
    (case k7 => k_is)
    (case a8 => k_is)
    (case l8 => k_is)
    (case c8 => k_is)
    (case k8 => k_is)
    (case a9 => k_is)
    (case l9 => k_is)
    (case c9 => k_is)
    (case k9 => k_is)
    (case a10 => k_is)
    (case l10 => k_is)
    (case c10 => k_is)
    (case k10 => k_is)
    (case a11 => k_is)
    (case l11 => k_is)
    (case c11 => k_is)
    (case k11 => k_is)
    (case a12 => k_is)
    (case l12 => k_is)
    (case c12 => k_is)
    (case k12 => k_is)
    (case a13 => k_is)
    (case l13 => k_is)
    (case c13 => k_is)
    (case k13 => k_is)
    (case a14 => k_is)
    (case l14 => k_is)
    (case c14 => k_is)
    (case k14 => k_is)
    (case a15 => k_is)
    (case l15 => k_is)
    (case c15 => k_is)
    (case k15 => k_is)
    (case z_len => k_is)
    (case z_int => k_is)
    (case z_abs => k_is)
    (case z_list => k_is)
    (case z_range => k_is)
    (case z_isinstance => k_is)
    (case z_bool => k_is)
    (case z_tuple => k_is)
    (case z_sum => k_is)
    (case z_any => k_is)
    (case z_zip => k_is)
#print axioms PySem.Challenge.cw_oneshard_k42_check_split_holds

import PyProof.Rows.All
import Wide.All
import OpenK.AllK
import Wide.FinOn
import HandS.Base
import HandS.Call
import HandS.List
import HandS.Comp
import HandS.Ends
import HandS.Dict
import HandS.Iter
import HandS.Text
import HandS.Words
import HandS.WordsList
import HandS.WordsDict
import HandS.Walk
import HandS.IsInst
import HandS.Defaults
import HandS.Codes
import HandS.More
import HandS.DictComp
import HandS.FStr
import HandS.OwnEq
import HandS.Property
import HandS.Style
import HandS.StrMore
import HandS.Exc
import HandS.ExcOwn
import HandS.ExcInit
import HandS.ExcField
import HandS.ExcIs
import HandS.ExcValue
import HandS.Finally
import HandS.TryOnly
import HandS.TryMany
import HandS.Flow
import HandS.WordsExc
import HandS.Star
import HandS.ClsMeth
import HandS.Wide
import HandS.WideBits
import HandS.Gcd
import HandS.TupAny
import HandS.MakeKw
import HandS.MakeKwOnly
import KE.KCallOwn
import KE.KOpsOwn
import KE.DataEq
import HandS.Zip
import KE.GoesEnum
import KE.GoesMore
import PySem.Challenge.RW_oneshard_k23_whole_kernel
set_option Elab.async false
set_option linter.all false
set_option maxRecDepth 100000
set_option maxHeartbeats 2000000
/-! ### data: values without a heap, the world of a run, what is said of a run over data -/
namespace OZ
open PySem L2
inductive Da where
  | non | bl (b : Bool) | int (i : Int) | str (s : Str) | ty (n : String) | ref (a : Addr)
  | tup (ds : List Da) | lst (ds : List Da) | dct (kvs : List (Key × Da)) | obj (C : Addr) (fs : List (Str × Da)) | exc (a dd : Addr) (fs : List (Str × Da))
mutual
inductive Rep (K : PySem.W.Frag) (G : Hp) : V → Da → Prop
  | non : Rep K G .non .non
  | bl (b : Bool) : Rep K G (.bl b) (.bl b)
  | int (i : Int) : Rep K G (.int i) (.int i)
  | str (s : Str) : Rep K G (.str s) (.str s)
  | ty (n : String) : Rep K G (.ty n) (.ty n)
  | ref (a : Addr) : Rep K G (.ref a) (.ref a)
  | tup {a : Addr} {vs : List V} {ds : List Da} : SqT K G a vs → Reps K G vs ds → Rep K G (.ref a) (.tup ds)
  | lst {a : Addr} {vs : List V} {ds : List Da} : G a = some (.lst vs) → Reps K G vs ds → Rep K G (.ref a) (.lst ds)
  | dct {a : Addr} {o : Obj} {kvs : List (Key × V)} {ks : List (Key × Da)} : G a = some (.frz o (.dK kvs)) → RepK K G kvs ks → Rep K G (.ref a) (.dct ks)
  | obj {a C dx : Addr} {vs : List (Str × V)} {fs : List (Str × Da)} : G a = some (.ins C dx vs) → RepF K G vs fs → Rep K G (.ref a) (.obj C fs)
  | exc {a dd : Addr} {vs : List (Str × V)} {fs : List (Str × Da)} : G dd = some (.xd vs) → RepF K G vs fs → Rep K G (.ref a) (.exc a dd fs)
inductive Reps (K : PySem.W.Frag) (G : Hp) : List V → List Da → Prop
  | nil : Reps K G [] []
  | cons {v : V} {d : Da} {vs : List V} {ds : List Da} : Rep K G v d → Reps K G vs ds → Reps K G (v :: vs) (d :: ds)
inductive RepK (K : PySem.W.Frag) (G : Hp) : List (Key × V) → List (Key × Da) → Prop
  | nil : RepK K G [] []
  | cons {k : Key} {v : V} {d : Da} {vs : List (Key × V)} {ds : List (Key × Da)} : Rep K G v d → RepK K G vs ds → RepK K G ((k, v) :: vs) ((k, d) :: ds)
inductive RepF (K : PySem.W.Frag) (G : Hp) : List (Str × V) → List (Str × Da) → Prop
  | nil : RepF K G [] []
  | cons {k : Str} {v : V} {d : Da} {vs : List (Str × V)} {ds : List (Str × Da)} : Rep K G v d → RepF K G vs ds → RepF K G ((k, v) :: vs) ((k, d) :: ds)
end
theorem rd_same {G G' : Hp} {a : Addr} {u : HO} (s : Same G G') (r : Rd G a u) : Rd G' a u := r.elim (fun r => .inl (s _ _ r)) fun ⟨o, r⟩ => .inr ⟨o, s _ _ r⟩
theorem sqL_same {K : PySem.W.Frag} {G G' : Hp} {a : Addr} {xs : List V} (s : Same G G') (h : SqL K G a xs) : SqL K G' a xs := h.elim (fun r => .inl (rd_same s r)) .inr
theorem sqT_same {K : PySem.W.Frag} {G G' : Hp} {a : Addr} {xs : List V} (s : Same G G') (h : SqT K G a xs) : SqT K G' a xs := h.elim (fun r => .inl (rd_same s r)) .inr
mutual
theorem Rep.mono {K : PySem.W.Frag} {G G' : Hp} (s : Same G G') : ∀ {v : V} {d : Da}, Rep K G v d → Rep K G' v d
  | _, _, .non => .non
  | _, _, .bl b => .bl b
  | _, _, .int b => .int b
  | _, _, .str b => .str b
  | _, _, .ty b => .ty b
  | _, _, .ref b => .ref b
  | _, _, .tup h r => .tup (sqT_same s h) (Reps.mono s r)
  | _, _, .lst h r => .lst (s _ _ h) (Reps.mono s r)
  | _, _, .dct h r => .dct (s _ _ h) (RepK.mono s r)
  | _, _, .obj h r => .obj (s _ _ h) (RepF.mono s r)
  | _, _, .exc h r => .exc (s _ _ h) (RepF.mono s r)
theorem Reps.mono {K : PySem.W.Frag} {G G' : Hp} (s : Same G G') : ∀ {v : List V} {d : List Da}, Reps K G v d → Reps K G' v d
  | _, _, .nil => .nil
  | _, _, .cons a b => .cons (Rep.mono s a) (Reps.mono s b)
theorem RepK.mono {K : PySem.W.Frag} {G G' : Hp} (s : Same G G') : ∀ {v : List (Key × V)} {d : List (Key × Da)}, RepK K G v d → RepK K G' v d
  | _, _, .nil => .nil
  | _, _, .cons a b => .cons (Rep.mono s a) (RepK.mono s b)
theorem RepF.mono {K : PySem.W.Frag} {G G' : Hp} (s : Same G G') : ∀ {v : List (Str × V)} {d : List (Str × Da)}, RepF K G v d → RepF K G' v d
  | _, _, .nil => .nil
  | _, _, .cons a b => .cons (Rep.mono s a) (RepF.mono s b)
end
theorem Reps.length {K : PySem.W.Frag} {G : Hp} : ∀ {v : List V} {d : List Da}, Reps K G v d → v.length = d.length
  | _, _, .nil => rfl
  | _, _, .cons _ b => by simp [Reps.length b]
theorem Reps.get {K : PySem.W.Frag} {G : Hp} : ∀ {vs : List V} {ds : List Da} {i : Nat} {d : Da}, Reps K G vs ds → ds[i]? = some d → ∃ v, vs[i]? = some v ∧ Rep K G v d
  | _, _, _, _, .nil, e => by simp at e
  | _, _, 0, _, .cons a _, e => by simp at e; subst e; exact ⟨_, rfl, a⟩
  | _, _, i + 1, d, .cons _ b, e => by
    obtain ⟨v, h1, h2⟩ := Reps.get (i := i) (d := d) b (by simpa using e)
    exact ⟨v, by simpa using h1, h2⟩
theorem Reps.get' {K : PySem.W.Frag} {G : Hp} : ∀ {vs : List V} {ds : List Da} {i : Nat} {v : V}, Reps K G vs ds → vs[i]? = some v → ∃ d, ds[i]? = some d ∧ Rep K G v d
  | _, _, _, _, .nil, e => by simp at e
  | _, _, 0, _, .cons a _, e => by simp at e; subst e; exact ⟨_, rfl, a⟩
  | _, _, i + 1, d, .cons _ b, e => by
    obtain ⟨v, h1, h2⟩ := Reps.get' (i := i) (v := d) b (by simpa using e)
    exact ⟨v, by simpa using h1, h2⟩
theorem Reps.append {K : PySem.W.Frag} {G : Hp} : ∀ {v w : List V} {d e : List Da}, Reps K G v d → Reps K G w e → Reps K G (v ++ w) (d ++ e)
  | _, _, _, _, .nil, r => r
  | _, _, _, _, .cons a b, r => .cons a (Reps.append b r)
theorem Reps.set {K : PySem.W.Frag} {G : Hp} {v : V} {d : Da} (r : Rep K G v d) : ∀ {vs : List V} {ds : List Da} (i : Nat), Reps K G vs ds → Reps K G (vs.set i v) (ds.set i d)
  | _, _, _, .nil => .nil
  | _, _, 0, .cons _ b => .cons r b
  | _, _, i + 1, .cons a b => .cons a (Reps.set r i b)
theorem Reps.take {K : PySem.W.Frag} {G : Hp} : ∀ {vs : List V} {ds : List Da} (n : Nat), Reps K G vs ds → Reps K G (vs.take n) (ds.take n)
  | _, _, 0, _ => .nil
  | _, _, _ + 1, .nil => .nil
  | _, _, n + 1, .cons a b => .cons a (Reps.take n b)
theorem Reps.drop {K : PySem.W.Frag} {G : Hp} : ∀ {vs : List V} {ds : List Da} (n : Nat), Reps K G vs ds → Reps K G (vs.drop n) (ds.drop n)
  | _, _, 0, r => r
  | _, _, _ + 1, .nil => .nil
  | _, _, n + 1, .cons _ b => Reps.drop n b
theorem Reps.rev {K : PySem.W.Frag} {G : Hp} : ∀ {vs : List V} {ds : List Da}, Reps K G vs ds → Reps K G vs.reverse ds.reverse
  | _, _, .nil => .nil
  | _, _, .cons a b => by rw [List.reverse_cons, List.reverse_cons]; exact (Reps.rev b).append (.cons a .nil)
theorem RepF.look {K : PySem.W.Frag} {G : Hp} {f : Str} : ∀ {vs : List (Str × V)} {ds : List (Str × Da)} {d : Da}, RepF K G vs ds → ds.lookup f = some d → ∃ v, vs.lookup f = some v ∧ Rep K G v d
  | _, _, _, .nil, e => by simp [List.lookup] at e
  | _, _, d, .cons (k := k) a b, e => by
    by_cases h : (f == k) = true
    · simp only [List.lookup, h] at e ⊢
      cases e
      exact ⟨_, rfl, a⟩
    · have h : (f == k) = false := by simpa using h
      simp only [List.lookup, h] at e ⊢
      exact RepF.look b e
theorem RepF.lookN {K : PySem.W.Frag} {G : Hp} {f : Str} : ∀ {vs : List (Str × V)} {ds : List (Str × Da)}, RepF K G vs ds → ds.lookup f = none → vs.lookup f = none
  | _, _, .nil, e => rfl
  | _, _, .cons (k := k) a b, e => by
    by_cases h : (f == k) = true
    · simp only [List.lookup, h] at e; cases e
    · have h : (f == k) = false := by simpa using h
      simp only [List.lookup, h] at e ⊢
      exact RepF.lookN b e
theorem Rep.int_inv {K : PySem.W.Frag} {G : Hp} {v : V} {i : Int} (h : Rep K G v (.int i)) : v = .int i := by cases h; rfl
theorem Rep.bl_inv {K : PySem.W.Frag} {G : Hp} {v : V} {i : Bool} (h : Rep K G v (.bl i)) : v = .bl i := by cases h; rfl
theorem Rep.str_inv {K : PySem.W.Frag} {G : Hp} {v : V} {i : Str} (h : Rep K G v (.str i)) : v = .str i := by cases h; rfl
theorem Rep.non_inv {K : PySem.W.Frag} {G : Hp} {v : V} (h : Rep K G v .non) : v = .non := by cases h; rfl
theorem Rep.ref_inv {K : PySem.W.Frag} {G : Hp} {v : V} {a : Addr} (h : Rep K G v (.ref a)) : v = .ref a := by cases h; rfl
theorem Rep.ty_inv {K : PySem.W.Frag} {G : Hp} {v : V} {a : String} (h : Rep K G v (.ty a)) : v = .ty a := by cases h; rfl

theorem Rep.lst_inv {K : PySem.W.Frag} {G : Hp} {v : V} {ds : List Da} (h : Rep K G v (.lst ds)) : ∃ a vs, v = .ref a ∧ G a = some (.lst vs) ∧ Reps K G vs ds := by cases h with | lst q r => exact ⟨_, _, rfl, q, r⟩
theorem Rep.tup_inv {K : PySem.W.Frag} {G : Hp} {v : V} {ds : List Da} (h : Rep K G v (.tup ds)) : ∃ a vs, v = .ref a ∧ SqT K G a vs ∧ Reps K G vs ds := by cases h with | tup q r => exact ⟨_, _, rfl, q, r⟩
theorem Rep.dct_inv {K : PySem.W.Frag} {G : Hp} {v : V} {ds : List (Key × Da)} (h : Rep K G v (.dct ds)) : ∃ a o vs, v = .ref a ∧ G a = some (.frz o (.dK vs)) ∧ RepK K G vs ds := by cases h with | dct q r => exact ⟨_, _, _, rfl, q, r⟩
theorem Rep.obj_inv {K : PySem.W.Frag} {G : Hp} {v : V} {C : Addr} {fs : List (Str × Da)} (h : Rep K G v (.obj C fs)) : ∃ a dx vs, v = .ref a ∧ G a = some (.ins C dx vs) ∧ RepF K G vs fs := by cases h with | obj q r => exact ⟨_, _, _, rfl, q, r⟩

/-- what a law keeps apart: its drawing state, and how often was drawn -/
structure Mode where
  X : Hp → Addr → Prop
  S : Nat → Hp → Prop
  clo : ∀ m H H', S m H → (∀ b o, X H b → H b = some o → H' b = some o) → S m H' ∧ ∀ b, X H' b → X H b
  there : ∀ m H b, S m H → X H b → ∃ o, H b = some o
def pureM : Mode := ⟨fun _ _ => False, fun _ _ => True, fun _ _ _ _ _ => ⟨trivial, fun _ h => h⟩, fun _ _ _ _ h => h.elim⟩
/-- from the entry (data G0 within H0) to now (data G within H) -/
structure Ok (M : Mode) (G0 H0 G H : Hp) (m : Nat) : Prop where
  sub : Same G H
  inv : M.S m H
  off : ∀ b, M.X H b → G b = none
  le : Same G0 G
  keep : ∀ b o, H0 b = some o → ¬ M.X H0 b → H b = some o ∧ ¬ M.X H b
  new : ∀ b o, H0 b = some o → ¬ M.X H0 b → G0 b = none → G b = none
theorem Ok.refl {M : Mode} {G H : Hp} {m : Nat} (s : Same G H) (i : M.S m H) (o : ∀ b, M.X H b → G b = none) : Ok M G H G H m := ⟨s, i, o, Same.refl _, fun _ _ h n => ⟨h, n⟩, fun _ _ _ _ h => h⟩
theorem Ok.here {M : Mode} {G0 H0 G H : Hp} {m : Nat} (a : Ok M G0 H0 G H m) : Ok M G H G H m := .refl a.sub a.inv a.off
theorem Ok.trans {M : Mode} {G0 H0 G H G' H' : Hp} {m m' : Nat} (a : Ok M G0 H0 G H m) (b : Ok M G H G' H' m') : Ok M G0 H0 G' H' m' :=
  ⟨b.sub, b.inv, b.off, a.le.trans b.le, fun c o h n => b.keep c o (a.keep c o h n).1 (a.keep c o h n).2, fun c o h n g => b.new c o (a.keep c o h n).1 (a.keep c o h n).2 (a.new c o h n g)⟩
/-- the same entry, the data known by now -/
theorem Ok.rebase {M : Mode} {G0 H0 G H : Hp} {m : Nat} (a : Ok M G0 H0 G H m) : Ok M G H0 G H m := ⟨a.sub, a.inv, a.off, Same.refl _, a.keep, fun _ _ _ _ g => g⟩
theorem Ok.unbase {M : Mode} {G0 H0 G H G' H' : Hp} {m m' : Nat} (a : Ok M G0 H0 G H m) (b : Ok M G H0 G' H' m') : Ok M G0 H0 G' H' m' := ⟨b.sub, b.inv, b.off, a.le.trans b.le, b.keep, fun c o h n g => b.new c o h n (a.new c o h n g)⟩
theorem sameUp {H : Hp} {p : Addr} {o : HO} (h : H p = none) : Same H (L2.upd H p o) := fun b u e => by
  rw [upd_ne (ne_of_none e h)]; exact e
/-- a new object that is known from now on -/
theorem Ok.alloc {M : Mode} {G0 H0 G H : Hp} {m : Nat} {p : Addr} {o : HO} (a : Ok M G0 H0 G H m) (h : H p = none) : Ok M G H (L2.upd G p o) (L2.upd H p o) m := by
  have hg : G p = none := by
    cases e : G p with
    | none => rfl
    | some u => rw [a.sub _ _ e] at h; cases h
  have nx : ∀ b, M.X H b → b ≠ p := fun b x q => by
    obtain ⟨u, e⟩ := M.there m H b a.inv x
    subst q; rw [e] at h; cases h
  obtain ⟨c1, c2⟩ := M.clo m H (L2.upd H p o) a.inv fun b u x e => by rw [upd_ne (nx b x)]; exact e
  refine ⟨fun b u e => ?_, c1, fun b x => ?_, sameUp hg, fun b u e n => ⟨sameUp h _ _ e, fun x => n (c2 _ x)⟩, fun b u e _ g => ?_⟩
  · by_cases q : b = p
    · subst q; rw [upd_same] at e ⊢; exact e
    · rw [upd_ne q] at e ⊢; exact a.sub _ _ e
  · rw [upd_ne (nx b (c2 _ x))]; exact a.off _ (c2 _ x)
  · rw [upd_ne (ne_of_none e h)]; exact g
/-- a new object of the run's own -/
theorem Ok.allocM {M : Mode} {G0 H0 G H : Hp} {m : Nat} {p : Addr} {o : HO} (a : Ok M G0 H0 G H m) (h : H p = none) : Ok M G H G (L2.upd H p o) m := by
  have nx : ∀ b, M.X H b → b ≠ p := fun b x q => by
    obtain ⟨u, e⟩ := M.there m H b a.inv x
    subst q; rw [e] at h; cases h
  obtain ⟨c1, c2⟩ := M.clo m H (L2.upd H p o) a.inv fun b u x e => by rw [upd_ne (nx b x)]; exact e
  exact ⟨a.sub.trans (sameUp h), c1, fun b x => a.off _ (c2 _ x), Same.refl _, fun b u e n => ⟨sameUp h _ _ e, fun x => n (c2 _ x)⟩, fun b u e _ g => g⟩
/-- an object of the run's own changes -/
theorem Ok.mut {M : Mode} {G0 H0 G H : Hp} {m : Nat} {p : Addr} {o : HO} (a : Ok M G0 H0 G H m) (hg : G p = none) (nx : ¬ M.X H p) (h0 : H0 p = none ∨ M.X H0 p) : Ok M G0 H0 G (L2.upd H p o) m := by
  obtain ⟨c1, c2⟩ := M.clo m H (L2.upd H p o) a.inv fun b u x e => by rw [upd_ne (fun q => nx (by rw [← q]; exact x))]; exact e
  have ne : ∀ b u, H0 b = some u → ¬ M.X H0 b → b ≠ p := fun b u e n q => by
    subst q
    rcases h0 with h | h
    · rw [h] at e; cases e
    · exact n h
  refine ⟨fun b u e => ?_, c1, fun b x => a.off _ (c2 _ x), a.le, fun b u e n => ⟨?_, fun x => (a.keep b u e n).2 (c2 _ x)⟩, a.new⟩
  · rw [upd_ne (fun q => by rw [q, hg] at e; cases e)]; exact a.sub _ _ e
  · rw [upd_ne (ne b u e n)]; exact (a.keep b u e n).1
/-- .. and is known from now on -/
theorem Ok.pub {M : Mode} {G0 H0 G H : Hp} {m : Nat} {p : Addr} {o : HO} (a : Ok M G0 H0 G H m) (hh : H p = some o) (hg : G p = none) (nx : ¬ M.X H p) (h0 : H0 p = none ∨ M.X H0 p) : Ok M G0 H0 (L2.upd G p o) H m := by
  refine ⟨fun b w e => ?_, a.inv, fun b x => ?_, a.le.trans (sameUp hg), a.keep, fun b w e n g => ?_⟩
  · by_cases q : b = p
    · subst q; rw [upd_same] at e; rw [hh]; exact e
    · rw [upd_ne q] at e; exact a.sub _ _ e
  · rw [upd_ne (fun q => nx (by rw [← q]; exact x))]; exact a.off _ x
  · rw [upd_ne (fun q => by
      subst q
      rcases h0 with h | h
      · rw [h] at e; cases e
      · exact n h)]
    exact a.new b w e n g
/-- a pure step within any mode -/
theorem Ok.lift {M : Mode} {G0 H0 G H G' H' : Hp} {m k : Nat} (a : Ok M G0 H0 G H m) (b : Ok pureM G H G' H' k) : Ok M G H G' H' m := by
  obtain ⟨c1, c2⟩ := M.clo m H H' a.inv fun c u x e => (b.keep c u e (fun h => h)).1
  refine ⟨b.sub, c1, fun c x => ?_, b.le, fun c u e n => ⟨(b.keep c u e fun h => h).1, fun x => n (c2 _ x)⟩, fun c u e n g => b.new c u e (fun h => h) g⟩
  obtain ⟨u, e⟩ := M.there m H c a.inv (c2 _ x)
  exact b.new c u e (fun h => h) (a.off _ (c2 _ x))
theorem Ok.toPure {M : Mode} {G0 H0 G H : Hp} {m : Nat} (a : Ok M G0 H0 G H m) : Ok pureM G H G H 0 := .refl a.sub trivial (fun _ h => h.elim)

/-- a slot: empty or of no interest; data; an object of the run's own -/
inductive Sl where
  | un | v (d : Da) | mm (o : Option Addr) (d : Da)
abbrev Sl.m (d : Da) : Sl := .mm none d
def RepM (K : PySem.W.Frag) (G H : Hp) (a : Addr) : Da → Prop
  | .lst ds => ∃ vs, H a = some (.lst vs) ∧ Reps K G vs ds
  | .dct ks => ∃ kvs, H a = some (.dK kvs) ∧ RepK K G kvs ks
  | .obj C fs => ∃ dx vs, H a = some (.ins C dx vs) ∧ RepF K G vs fs
  | _ => False
def RelSl (K : PySem.W.Frag) (M : Mode) (H0 G H : Hp) (o : Option V) : Sl → Prop
  | .un => True
  | .v d => ∃ v, o = some v ∧ Rep K G v d
  | .mm q d => ∃ a, o = some (.ref a) ∧ (∀ x, q = some x → a = x) ∧ G a = none ∧ (H0 a = none ∨ M.X H0 a) ∧ ¬ M.X H a ∧ RepM K G H a d
def Mt (sl : List Sl) (i : Nat) : Prop := ∃ q d, sl[i]? = some (.mm q d)
structure SOk (K : PySem.W.Frag) (M : Mode) (H0 G H : Hp) (σ : L2.St) (sl : List Sl) : Prop where
  rel : Paired (RelSl K M H0 G H) σ sl
  dis : ∀ i j a, Mt sl i → Mt sl j → σ[i]? = some (some (.ref a)) → σ[j]? = some (some (.ref a)) → i = j
theorem RepM.there {K : PySem.W.Frag} {G H : Hp} {a : Addr} {d : Da} (h : RepM K G H a d) : ∃ o, H a = some o := by
  cases d <;> first | exact h.elim | (obtain ⟨_, h, _⟩ := h; exact ⟨_, h⟩) | (obtain ⟨_, _, h, _⟩ := h; exact ⟨_, h⟩)
theorem RepM.step {K : PySem.W.Frag} {G H G' H' : Hp} {a : Addr} {d : Da} (s : Same G G') (e : H' a = H a) (h : RepM K G H a d) : RepM K G' H' a d := by
  cases d with
  | lst ds => obtain ⟨vs, h, r⟩ := h; exact ⟨vs, e.trans h, r.mono s⟩
  | dct ds => obtain ⟨vs, h, r⟩ := h; exact ⟨vs, e.trans h, r.mono s⟩
  | obj C fs => obtain ⟨dx, vs, h, r⟩ := h; exact ⟨dx, vs, e.trans h, r.mono s⟩
  | _ => exact h
theorem RelSl.step {K : PySem.W.Frag} {M : Mode} {H0 G H G' H' : Hp} {m : Nat} {o : Option V} {s : Sl} (b : Ok M G H G' H' m) (h : RelSl K M H0 G H o s) : RelSl K M H0 G' H' o s := by
  cases s with
  | un => trivial
  | v d => obtain ⟨v, e, r⟩ := h; exact ⟨v, e, r.mono b.le⟩
  | mm q d =>
    obtain ⟨a, e, z, g, h0, n, r⟩ := h
    obtain ⟨u, hu⟩ := r.there
    obtain ⟨k1, k2⟩ := b.keep a u hu n
    exact ⟨a, e, z, b.new a u hu n g, h0, k2, r.step b.le (k1.trans hu.symm)⟩
theorem paired_imp {α β : Type} {F F' : α → β → Prop} (h : ∀ a b, F a b → F' a b) : ∀ {xs : List α} {ys : List β}, Paired F xs ys → Paired F' xs ys
  | _, _, .nil => .nil
  | _, _, .cons a b => .cons (h _ _ a) (paired_imp h b)
theorem SOk.step {K : PySem.W.Frag} {M : Mode} {H0 G H G' H' : Hp} {m : Nat} {σ : L2.St} {sl : List Sl} (b : Ok M G H G' H' m) (h : SOk K M H0 G H σ sl) : SOk K M H0 G' H' σ sl :=
  ⟨paired_imp (fun _ _ r => r.step b) h.rel, h.dis⟩
/-- an object that no slot holds changes -/
theorem SOk.upd {K : PySem.W.Frag} {M : Mode} {H0 G H : Hp} {σ : L2.St} {sl : List Sl} {D : Addr} {o : HO} (h : SOk K M H0 G H σ sl) (nx : ∀ b, M.X (L2.upd H D o) b → M.X H b) (f : ∀ i a, Mt sl i → σ[i]? = some (some (.ref a)) → a ≠ D) : SOk K M H0 G (L2.upd H D o) σ sl := by
  refine ⟨?_, h.dis⟩
  have go : ∀ (σ : L2.St) (sl : List Sl), Paired (RelSl K M H0 G H) σ sl → (∀ i a, Mt sl i → σ[i]? = some (some (.ref a)) → a ≠ D) → Paired (RelSl K M H0 G (L2.upd H D o)) σ sl := by
    intro σ sl r
    induction r with
    | nil => intro _; exact .nil
    | cons x y ih =>
      rename_i c s _ _
      intro f
      refine .cons ?_ (ih fun i a ⟨q, d, hd⟩ e => f (i + 1) a ⟨q, d, by simpa using hd⟩ (by simpa using e))
      cases s with
      | un => trivial
      | v d => exact x
      | mm q d =>
        obtain ⟨a, rfl, z, g, h0, n, r⟩ := x
        have ne := f 0 a ⟨q, d, rfl⟩ rfl
        exact ⟨a, rfl, z, g, h0, fun z => n (nx _ z), r.step (Same.refl _) (upd_ne ne)⟩
  exact go σ sl h.rel f
theorem paired_get {α β : Type} {F : α → β → Prop} : ∀ {xs : List α} {ys : List β} {i : Nat} {y : β}, Paired F xs ys → ys[i]? = some y → ∃ x, xs[i]? = some x ∧ F x y
  | _, _, _, _, .nil, e => by simp at e
  | _, _, 0, _, .cons r _, e => by simp at e; subst e; exact ⟨_, rfl, r⟩
  | _, _, i + 1, y, .cons _ t, e => by
    obtain ⟨u, h1, h2⟩ := paired_get (i := i) (y := y) t (by simpa using e)
    exact ⟨u, by simpa using h1, h2⟩
theorem paired_set {α β : Type} {F : α → β → Prop} {x : α} {y : β} (r : F x y) : ∀ {xs : List α} {ys : List β} (i : Nat), Paired F xs ys → Paired F (xs.set i x) (ys.set i y)
  | _, _, _, .nil => .nil
  | _, _, 0, .cons _ t => .cons r t
  | _, _, i + 1, .cons q t => .cons q (paired_set r i t)
/-- a slot set to data -/
theorem SOk.setV {K : PySem.W.Frag} {M : Mode} {H0 G H : Hp} {σ : L2.St} {sl : List Sl} {v : V} {d : Da} (i : Nat) (h : SOk K M H0 G H σ sl) (r : Rep K G v d) : SOk K M H0 G H (σ.set i (some v)) (sl.set i (.v d)) := by
  refine ⟨paired_set ⟨v, rfl, r⟩ i h.rel, fun j k a mj mk ej ek => ?_⟩
  have w : ∀ j, Mt (sl.set i (.v d)) j → j ≠ i ∧ Mt sl j := fun j ⟨e0, e, hj⟩ => by
    by_cases q : i = j
    · subst q
      by_cases l : i < sl.length
      · rw [List.getElem?_set_self l] at hj; cases hj
      · rw [List.getElem?_eq_none (by simpa using l)] at hj; cases hj
    · rw [List.getElem?_set_ne q] at hj; exact ⟨fun z => q z.symm, e0, e, hj⟩
  obtain ⟨nj, mj⟩ := w j mj
  obtain ⟨nk, mk⟩ := w k mk
  rw [List.getElem?_set_ne nj.symm] at ej
  rw [List.getElem?_set_ne nk.symm] at ek
  exact h.dis j k a mj mk ej ek
theorem SOk.setN {K : PySem.W.Frag} {M : Mode} {H0 G H : Hp} {σ : L2.St} {sl : List Sl} {o : Option V} (i : Nat) (h : SOk K M H0 G H σ sl) : SOk K M H0 G H (σ.set i o) (sl.set i .un) := by
  refine ⟨paired_set trivial i h.rel, fun j k a mj mk ej ek => ?_⟩
  have w : ∀ j, Mt (sl.set i .un) j → j ≠ i ∧ Mt sl j := fun j ⟨e0, e, hj⟩ => by
    by_cases q : i = j
    · subst q
      by_cases l : i < sl.length
      · rw [List.getElem?_set_self l] at hj; cases hj
      · rw [List.getElem?_eq_none (by simpa using l)] at hj; cases hj
    · rw [List.getElem?_set_ne q] at hj; exact ⟨fun z => q z.symm, e0, e, hj⟩
  obtain ⟨nj, mj⟩ := w j mj
  obtain ⟨nk, mk⟩ := w k mk
  rw [List.getElem?_set_ne nj.symm] at ej
  rw [List.getElem?_set_ne nk.symm] at ek
  exact h.dis j k a mj mk ej ek
/-- forget what a slot holds -/
theorem SOk.drop {K : PySem.W.Frag} {M : Mode} {H0 G H : Hp} {σ : L2.St} {sl : List Sl} (i : Nat) (h : SOk K M H0 G H σ sl) : SOk K M H0 G H σ (sl.set i .un) := by
  have e : ∀ (σ : L2.St) (sl : List Sl), Paired (RelSl K M H0 G H) σ sl → ∀ i, Paired (RelSl K M H0 G H) σ (sl.set i .un) := by
    intro σ sl r
    induction r with
    | nil => intro i; exact .nil
    | cons a b ih => intro i; cases i with
      | zero => exact .cons trivial b
      | succ i => exact .cons a (ih i)
  refine ⟨e _ _ h.rel i, fun j k a mj mk ej ek => ?_⟩
  have w : ∀ j, Mt (sl.set i .un) j → Mt sl j := fun j ⟨e0, e, hj⟩ => by
    by_cases q : i = j
    · subst q
      by_cases l : i < sl.length
      · rw [List.getElem?_set_self l] at hj; cases hj
      · rw [List.getElem?_eq_none (by simpa using l)] at hj; cases hj
    · rw [List.getElem?_set_ne q] at hj; exact ⟨e0, e, hj⟩
  exact h.dis j k a (w j mj) (w k mk) ej ek
theorem SOk.held {K : PySem.W.Frag} {M : Mode} {H0 G H : Hp} {σ : L2.St} {sl : List Sl} (h : SOk K M H0 G H σ sl) {i : Nat} {a : Addr} (mt : Mt sl i) (e : σ[i]? = some (some (.ref a))) : ∃ u, H a = some u ∧ ¬ M.X H a := by
  obtain ⟨q, d, hd⟩ := mt
  obtain ⟨o, e1, b, rfl, _, _, _, n, r⟩ := paired_get h.rel hd
  rw [e1] at e
  cases e
  obtain ⟨u, hu⟩ := r.there
  exact ⟨u, hu, n⟩
end OZ

/-! ### runs over data: expressions, arguments, tests -/
namespace OZ
open PySem L2 PySem.Spec PyProof.Rows
theorem sq_l {K : PySem.W.Frag} {H : Hp} {a : Addr} {xs : List V} (h : H a = some (.lst xs)) : SqL K H a xs := .inl (.inl h)
theorem sq_t {K : PySem.W.Frag} {H : Hp} {a : Addr} {xs : List V} (h : H a = some (.tup xs)) : SqT K H a xs := .inl (.inl h)
/-- the text that runs: its program, world, written part, names, ground -/
structure Bd where
  P : Program
  w : World
  K : PySem.W.Frag
  mg : Str → Option Value
  base : Heap
def bdOf (X : Cx) : Bd := ⟨X.prog, X.w, X.K, X.mg, X.base⟩
structure Ctx (X : Cx) (N : List Str) (sc : Scope) (B : Bd) : Prop where
  n : X.N = N
  s : X.env.scope = sc
  nd : X.N.Nodup
  b : bdOf X = B
abbrev GlS (sc : Scope) (x : Str) : Prop := sc.names.lookup x = some .globalImplicit
theorem Ctx.gl {X : Cx} {N : List Str} {sc : Scope} {B : Bd} {x : Str} (c : Ctx X N sc B) (h : GlS sc x) : Gl X x := by
  unfold Gl Env.kindOf
  rw [c.s]
  exact h
theorem Ctx.vis {X : Cx} {N : List Str} {sc : Scope} {B : Bd} {x : Str} (c : Ctx X N sc B) (h : Vis sc x) : Vis X.env.scope x := by
  rw [c.s]
  exact h
theorem Ctx.loc {X : Cx} {N : List Str} {sc : Scope} {B : Bd} {x : Str} (c : Ctx X N sc B) (h : Loc sc x) : Loc X.env.scope x := by
  rw [c.s]
  exact h
theorem Ctx.mg {X : Cx} {N : List Str} {sc : Scope} {B : Bd} {x : Str} {o : Option Value} (c : Ctx X N sc B) (h : B.mg x = o) : X.mg x = o := by
  have := c.b
  subst this
  exact h
abbrev Kx := Addr → List (Str × Da) → Nat → Prop
abbrev K0 : Kx := fun _ _ _ => False
def XRep (K : PySem.W.Frag) (G' H' : Hp) (d : Option Addr) (fs : List (Str × Da)) : Prop := (fs = [] ∧ d = none) ∨ ∃ dd vs, d = some dd ∧ G' dd = some (.xd vs) ∧ RepF K G' vs fs
structure Wis (M : Mode) (X : Cx) (KE : Kx) (G H : Hp) (σ : L2.St) (W : WX) : Prop where
  tk : Takes X W
  ex : ∀ C fs d m' G' H', KE C fs m' → Ok M G H G' H' m' → XRep X.K G' H' d fs → W (.ref C) d σ H'
def Post (M : Mode) (K : PySem.W.Frag) (G H : Hp) (P : Da → Nat → Prop) (Q : VK) : Prop := ∀ v d m' G' H', P d m' → Ok M G H G' H' m' → Rep K G' v d → Q v H'
def PostT (M : Mode) (G H : Hp) (P : Bool → Nat → Prop) (Q : Bool → Hp → Prop) : Prop := ∀ b m' G' H', P b m' → Ok M G H G' H' m' → Q b H'
def PostA (M : Mode) (K : PySem.W.Frag) (G H : Hp) (P : List Da → Nat → Prop) (Q : List V → Hp → Prop) : Prop := ∀ vs ds m' G' H', P ds m' → Ok M G H G' H' m' → Reps K G' vs ds → Q vs H'
theorem Wis.step {M : Mode} {X : Cx} {KE : Kx} {G H G' H' : Hp} {σ : L2.St} {W : WX} {m : Nat} (w : Wis M X KE G H σ W) (b : Ok M G H G' H' m) : Wis M X KE G' H' σ W :=
  ⟨w.tk, fun C fs d m' G2 H2 k o x => w.ex C fs d m' G2 H2 k (b.trans o) x⟩
theorem Post.step {M : Mode} {K : PySem.W.Frag} {G H G' H' : Hp} {P : Da → Nat → Prop} {Q : VK} {m : Nat} (w : Post M K G H P Q) (b : Ok M G H G' H' m) : Post M K G' H' P Q := fun v d m' G2 H2 p o r => w v d m' G2 H2 p (b.trans o) r
theorem PostT.step {M : Mode} {G H G' H' : Hp} {P : Bool → Nat → Prop} {Q : Bool → Hp → Prop} {m : Nat} (w : PostT M G H P Q) (b : Ok M G H G' H' m) : PostT M G' H' P Q := fun v m' G2 H2 p o => w v m' G2 H2 p (b.trans o)
theorem PostA.step {M : Mode} {K : PySem.W.Frag} {G H G' H' : Hp} {P : List Da → Nat → Prop} {Q : List V → Hp → Prop} {m : Nat} (w : PostA M K G H P Q) (b : Ok M G H G' H' m) : PostA M K G' H' P Q := fun v d m' G2 H2 p o r => w v d m' G2 H2 p (b.trans o) r

def wpE (X : Cx) (e : Expr) : TE := fun σ H Q => ∀ pins s, Inv X pins σ H s → wpAny (model X.prog X.w) X.A (eval e X.env) (EP X pins σ Q) X.xe s
def wpT (X : Cx) (e : Expr) : TT := fun σ H Q => ∀ pins s, Inv X pins σ H s → wpAny (model X.prog X.w) X.A (isTrue e X.env (eval e X.env)) (TP X pins σ Q) X.xe s
def wpW (X : Cx) (e : Expr) : TT := fun σ H Q => ∀ (whole : Sem Value) pins s, Inv X pins σ H s → wpAny (model X.prog X.w) X.A (isTrue e X.env whole) (TP X pins σ Q) X.xe s
def wpA (X : Cx) (es : List Expr) : TA := fun σ H Q => ∀ (pos : Pos) pins s, Inv X pins σ H s → wpAny (model X.prog X.w) X.A (spliced (backTo pos (starEach es X.env))) (AP X pins σ Q) X.xe s
theorem pe_wp {X : Cx} {e : Expr} : PE X e (wpE X e) := ⟨fun pins s _ _ _ I h => h pins s I⟩
theorem pt_wp {X : Cx} {e : Expr} : PT X e (wpT X e) := ⟨fun pins s _ _ _ I h => h pins s I⟩
theorem pw_wp {X : Cx} {e : Expr} : PW X e (wpW X e) := ⟨fun w pins s _ _ _ I h => h w pins s I⟩
theorem pa_wp {X : Cx} {es : List Expr} : PA X es (wpA X es) := ⟨fun pos pins s _ _ _ I h => h pos pins s I⟩
theorem wpE.of {X : Cx} {e : Expr} {t : TE} {σ : L2.St} {H : Hp} {Q : VK} (p : PE X e t) (h : t σ H Q) : wpE X e σ H Q := fun pins s I => p.run pins s σ H Q I h
theorem wpT.of {X : Cx} {e : Expr} {t : TT} {σ : L2.St} {H : Hp} {Q : Bool → Hp → Prop} (p : PT X e t) (h : t σ H Q) : wpT X e σ H Q := fun pins s I => p.run pins s σ H Q I h
theorem wpW.of {X : Cx} {e : Expr} {t : TT} {σ : L2.St} {H : Hp} {Q : Bool → Hp → Prop} (p : PW X e t) (h : t σ H Q) : wpW X e σ H Q := fun w pins s I => p.run w pins s σ H Q I h
theorem wpA.of {X : Cx} {e : List Expr} {t : TA} {σ : L2.St} {H : Hp} {Q : List V → Hp → Prop} (p : PA X e t) (h : t σ H Q) : wpA X e σ H Q := fun pos pins s I => p.run pos pins s σ H Q I h

section
variable (M : Mode) (X : Cx) (KE : Kx)
def EvD (e : Expr) (sl : List Sl) (P : Da → Nat → Prop) (m : Nat) : Prop :=
  ∀ (G0 H0 G H : Hp) (σ : L2.St) (W : WX) (Q : VK), Ok M G0 H0 G H m → SOk X.K M H0 G H σ sl → Wis M X KE G H σ W → Post M X.K G H P Q → wpE X e σ H Q
def EvA (es : List Expr) (sl : List Sl) (P : List Da → Nat → Prop) (m : Nat) : Prop :=
  ∀ (G0 H0 G H : Hp) (σ : L2.St) (W : WX) (Q : List V → Hp → Prop), Ok M G0 H0 G H m → SOk X.K M H0 G H σ sl → Wis M X KE G H σ W → PostA M X.K G H P Q → wpA X es σ H Q
def EvT (e : Expr) (sl : List Sl) (P : Bool → Nat → Prop) (m : Nat) : Prop :=
  ∀ (G0 H0 G H : Hp) (σ : L2.St) (W : WX) (Q : Bool → Hp → Prop), Ok M G0 H0 G H m → SOk X.K M H0 G H σ sl → Wis M X KE G H σ W → PostT M G H P Q → wpT X e σ H Q
def EvW (e : Expr) (sl : List Sl) (P : Bool → Nat → Prop) (m : Nat) : Prop :=
  ∀ (G0 H0 G H : Hp) (σ : L2.St) (W : WX) (Q : Bool → Hp → Prop), Ok M G0 H0 G H m → SOk X.K M H0 G H σ sl → Wis M X KE G H σ W → PostT M G H P Q → wpW X e σ H Q
/-- a two-place operation on data, a one-place one -/
def OpD (f : Value → Value → Sem Value) (a b : Da) (P : Da → Nat → Prop) (m : Nat) : Prop :=
  ∀ (G H : Hp) (σ : L2.St) (W : WX) (Q : VK) (x y : V), Ok M G H G H m → Wis M X KE G H σ W → Rep X.K G x a → Rep X.K G y b → Post M X.K G H P Q →
    ∀ pins s v u, Inv X pins σ H s → RelV x v → RelV y u → wpAny (model X.prog X.w) X.A (f v u) (EP X pins σ Q) X.xe s
def UnD (f : Value → Sem Value) (a : Da) (P : Da → Nat → Prop) (m : Nat) : Prop :=
  ∀ (G H : Hp) (σ : L2.St) (W : WX) (Q : VK) (x : V), Ok M G H G H m → Wis M X KE G H σ W → Rep X.K G x a → Post M X.K G H P Q →
    ∀ pins s v, Inv X pins σ H s → RelV x v → wpAny (model X.prog X.w) X.A (f v) (EP X pins σ Q) X.xe s
/-- a[b] -/
def IxD (a b : Da) (P : Da → Nat → Prop) (m : Nat) : Prop :=
  ∀ (G H : Hp) (σ : L2.St) (W : WX) (Q : VK) (x y : V), Ok M G H G H m → Wis M X KE G H σ W → Rep X.K G x a → Rep X.K G y b → Post M X.K G H P Q →
    ∀ (ve se : Expr) pins s v u, Inv X pins σ H s → RelV x v → RelV y u → subscripted se false v u = operate [v, u] (getItem v u) → wpAny (model X.prog X.w) X.A (subscriptTail ve se v u) (EP X pins σ Q) X.xe s
end
section
variable {M : Mode} {X : Cx} {KE : Kx} {a b c e : Expr} {es : List Expr} {sl : List Sl} {P : Da → Nat → Prop} {PT' : Bool → Nat → Prop} {PA' : List Da → Nat → Prop} {m : Nat} {pos : Pos}

theorem OpD.of {f : Value → Value → Sem Value} {r : R2} {x y : Da} (ho : OpR X f r) (h : ∀ G H Q u v, Ok M G H G H m → Rep X.K G u x → Rep X.K G v y → Post M X.K G H P Q → r u v H Q) : OpD M X KE f x y P m :=
  fun G H σ _ Q u v ok _ r1 r2 po pins s v' u' I e1 e2 => ho pins s σ H u v v' u' Q I e1 e2 (h G H Q u v ok r1 r2 po)
theorem UnD.of {f : Value → Sem Value} {r : V → Hp → VK → Prop} {x : Da} (ho : UnR X f r) (h : ∀ G H Q u, Ok M G H G H m → Rep X.K G u x → Post M X.K G H P Q → r u H Q) : UnD M X KE f x P m :=
  fun G H σ _ Q u ok _ r1 po pins s v' I e1 => ho pins s σ H u v' Q I e1 (h G H Q u ok r1 po)
theorem IxD.of {r : R2} {x y : Da} (ho : IxR X r) (h : ∀ G H Q u v, Ok M G H G H m → Rep X.K G u x → Rep X.K G v y → Post M X.K G H P Q → r u v H Q) : IxD M X KE x y P m :=
  fun G H σ _ Q u v ok _ r1 r2 po ve se pins s v' u' I e1 e2 hs => ho ve se pins s σ H u v v' u' Q I e1 e2 (h G H Q u v ok r1 r2 po) hs

theorem evd_imp {P' : Da → Nat → Prop} (h : EvD M X KE e sl P m) (k : ∀ d m', P d m' → P' d m') : EvD M X KE e sl P' m :=
  fun G0 H0 G H σ W Q ok so wi po => h G0 H0 G H σ W Q ok so wi fun v d m' G' H' p o r => po v d m' G' H' (k d m' p) o r
theorem eva_imp {P' : List Da → Nat → Prop} (h : EvA M X KE es sl PA' m) (k : ∀ d m', PA' d m' → P' d m') : EvA M X KE es sl P' m :=
  fun G0 H0 G H σ W Q ok so wi po => h G0 H0 G H σ W Q ok so wi fun v d m' G' H' p o r => po v d m' G' H' (k d m' p) o r
theorem evt_imp {P' : Bool → Nat → Prop} (h : EvT M X KE e sl PT' m) (k : ∀ d m', PT' d m' → P' d m') : EvT M X KE e sl P' m :=
  fun G0 H0 G H σ W Q ok so wi po => h G0 H0 G H σ W Q ok so wi fun d m' G' H' p o => po d m' G' H' (k d m' p) o

/-- the slot of a name -/
inductive EnvAt : List Str → List Sl → Str → Nat → Sl → Prop
  | here {x : Str} {N : List Str} {s : Sl} {sl : List Sl} : EnvAt (x :: N) (s :: sl) x 0 s
  | there {x y : Str} {N : List Str} {s t : Sl} {sl : List Sl} {i : Nat} : EnvAt N sl x i s → EnvAt (y :: N) (t :: sl) x (i + 1) s
theorem EnvAt.name : ∀ {N : List Str} {sl : List Sl} {x : Str} {i : Nat} {s : Sl}, EnvAt N sl x i s → N[i]? = some x
  | _, _, _, _, _, .here => rfl
  | _, _, _, _, _, .there h => by simpa using h.name
theorem EnvAt.slot : ∀ {N : List Str} {sl : List Sl} {x : Str} {i : Nat} {s : Sl}, EnvAt N sl x i s → sl[i]? = some s
  | _, _, _, _, _, .here => rfl
  | _, _, _, _, _, .there h => by simpa using h.slot
/-- the slots behind a store to a name -/
inductive EnvSet : List Str → List Sl → Str → Nat → Sl → List Sl → Prop
  | here {x : Str} {N : List Str} {s t : Sl} {sl : List Sl} : EnvSet (x :: N) (t :: sl) x 0 s (s :: sl)
  | there {x y : Str} {N : List Str} {s t : Sl} {sl sl' : List Sl} {i : Nat} : EnvSet N sl x i s sl' → EnvSet (y :: N) (t :: sl) x (i + 1) s (t :: sl')
theorem EnvSet.name : ∀ {N : List Str} {sl sl' : List Sl} {x : Str} {i : Nat} {s : Sl}, EnvSet N sl x i s sl' → N[i]? = some x
  | _, _, _, _, _, _, .here => rfl
  | _, _, _, _, _, _, .there h => by simpa using h.name
theorem EnvSet.set : ∀ {N : List Str} {sl sl' : List Sl} {x : Str} {i : Nat} {s : Sl}, EnvSet N sl x i s sl' → sl' = sl.set i s
  | _, _, _, _, _, _, .here => rfl
  | _, _, _, _, _, _, .there h => by rw [h.set]; rfl

theorem evd_name {N : List Str} {sc : Scope} {B : Bd} {x : Str} {i : Nat} {d : Da} (cx : Ctx X N sc B) (h : EnvAt N sl x i (.v d)) (k : P d m) (hv : Vis sc x := by with_unfolding_all first | exact Or.inl rfl | exact Or.inr (Or.inl rfl) | exact Or.inr (Or.inr rfl))
    (hd : (x == ("__debug__" : Str)) = false := by with_unfolding_all decide) (hcd : (x == ("__classdict__" : Str)) = false := by with_unfolding_all decide) : EvD M X KE (.Name x pos) sl P m := by
  intro G0 H0 G H σ W Q ok so wi po
  obtain ⟨o, e1, v, rfl, r⟩ := paired_get so.rel h.slot
  exact wpE.of (pe_var (by rw [cx.n]; exact h.name) (cx.vis hv) hd hcd) ⟨v, e1, po v d m G H k ok.here r⟩
theorem evd_int {i : Int} {j : Nat} (k : P (.int i) m) : EvD M X KE (.Constant (.int i) j pos) sl P m := fun _ _ G H _ _ _ ok _ _ po => wpE.of pe_int (po _ _ m G H k ok.here (.int i))
theorem evd_bl {i : Bool} {j : Nat} (k : P (.bl i) m) : EvD M X KE (.Constant (.bool i) j pos) sl P m := fun _ _ G H _ _ _ ok _ _ po => wpE.of pe_bl (po _ _ m G H k ok.here (.bl i))
theorem evd_str {i : Str} {j : Nat} (k : P (.str i) m) : EvD M X KE (.Constant (.str i) j pos) sl P m := fun _ _ G H _ _ _ ok _ _ po => wpE.of pe_str (po _ _ m G H k ok.here (.str i))
theorem evd_non {j : Nat} (k : P .non m) : EvD M X KE (.Constant .none j pos) sl P m := fun _ _ G H _ _ _ ok _ _ po => wpE.of pe_non (po _ _ m G H k ok.here .non)
/-- a class or def of the text, as a value -/
theorem evd_glob {N : List Str} {sc : Scope} {B : Bd} {x : Str} {C : Addr} (cx : Ctx X N sc B) (hm : B.mg x = some (.ref C)) (k : P (.ref C) m) (hg : GlS sc x := by with_unfolding_all rfl) (hd : (x == ("__debug__" : Str)) = false := by with_unfolding_all decide) : EvD M X KE (.Name x pos) sl P m :=
  fun _ _ G H _ _ _ ok _ _ po => wpE.of (pe_glob (v := .ref C) (cx.gl hg) (cx.mg hm) rfl hd) (po _ _ m G H k ok.here (.ref C))
theorem evd_gint {N : List Str} {sc : Scope} {B : Bd} {x : Str} {i : Int} {t : Tok} (cx : Ctx X N sc B) (hm : B.mg x = some (.int i t)) (k : P (.int i) m) (hg : GlS sc x := by with_unfolding_all rfl) (hd : (x == ("__debug__" : Str)) = false := by with_unfolding_all decide) : EvD M X KE (.Name x pos) sl P m :=
  fun _ _ G H _ _ _ ok _ _ po => wpE.of (pe_glob (v := .int i) (cx.gl hg) (cx.mg hm) ⟨t, rfl⟩ hd) (po _ _ m G H k ok.here (.int i))
theorem evd_gstr {N : List Str} {sc : Scope} {B : Bd} {x : Str} {i : Str} {t : Tok} (cx : Ctx X N sc B) (hm : B.mg x = some (.str i t)) (k : P (.str i) m) (hg : GlS sc x := by with_unfolding_all rfl) (hd : (x == ("__debug__" : Str)) = false := by with_unfolding_all decide) : EvD M X KE (.Name x pos) sl P m :=
  fun _ _ G H _ _ _ ok _ _ po => wpE.of (pe_glob (v := .str i) (cx.gl hg) (cx.mg hm) ⟨t, rfl⟩ hd) (po _ _ m G H k ok.here (.str i))
theorem evd_ty {N : List Str} {sc : Scope} {B : Bd} {x : Str} {n : String} (cx : Ctx X N sc B) (hm : B.mg x = none) (k : P (.ty n) m) (hv : bootBuiltins x = some (.type n) := by with_unfolding_all first | rfl | decide +kernel) (hg : GlS sc x := by with_unfolding_all rfl) (hn : x ≠ "__name__" := by with_unfolding_all decide) (hd : (x == ("__debug__" : Str)) = false := by with_unfolding_all decide) : EvD M X KE (.Name x pos) sl P m :=
  fun _ _ G H _ _ _ ok _ _ po => wpE.of (pe_bltn (v := .ty n) (cx.gl hg) (cx.mg hm) hv rfl hn hd) (po _ _ m G H k ok.here (.ty n))

/-- the run, told of what comes -/
theorem EvD.run (h : EvD M X KE e sl P m) {G0 H0 G H : Hp} {σ : L2.St} {W : WX} (ok : Ok M G0 H0 G H m) (so : SOk X.K M H0 G H σ sl) (wi : Wis M X KE G H σ W) {pins : List (Addr × Obj)} {s : Shared} (I : Inv X pins σ H s) {Q : Value → Shared → Prop}
    (k : ∀ u s' v d m' G' H', P d m' → Ok M G0 H0 G' H' m' → Ok M G H G' H' m' → SOk X.K M H0 G' H' σ sl → Wis M X KE G' H' σ W → Rep X.K G' v d → Inv X pins σ H' s' → RelV v u → Q u s') : wpAny (model X.prog X.w) X.A (eval e X.env) Q X.xe s :=
  thn (h G0 H0 G H σ W (fun v H' => ∃ d m' G', P d m' ∧ Ok M G H G' H' m' ∧ Rep X.K G' v d) ok so wi (fun v d m' G' H' p o r => ⟨d, m', G', p, o, r⟩) pins s I)
    fun u s' ⟨v, H', I', rv, d, m', G', p, o, r⟩ => k u s' v d m' G' H' p (ok.trans o) o (so.step o) (wi.step o) r I' rv
theorem EvT.run (h : EvT M X KE e sl PT' m) {G0 H0 G H : Hp} {σ : L2.St} {W : WX} (ok : Ok M G0 H0 G H m) (so : SOk X.K M H0 G H σ sl) (wi : Wis M X KE G H σ W) {pins : List (Addr × Obj)} {s : Shared} (I : Inv X pins σ H s) {Q : Bool → Shared → Prop}
    (k : ∀ b s' m' G' H', PT' b m' → Ok M G0 H0 G' H' m' → Ok M G H G' H' m' → SOk X.K M H0 G' H' σ sl → Wis M X KE G' H' σ W → Inv X pins σ H' s' → Q b s') : wpAny (model X.prog X.w) X.A (isTrue e X.env (eval e X.env)) Q X.xe s :=
  thn (h G0 H0 G H σ W (fun b H' => ∃ m' G', PT' b m' ∧ Ok M G H G' H' m') ok so wi (fun b m' G' H' p o => ⟨m', G', p, o⟩) pins s I)
    fun b s' ⟨H', I', m', G', p, o⟩ => k b s' m' G' H' p (ok.trans o) o (so.step o) (wi.step o) I'
theorem EvA.run (h : EvA M X KE es sl PA' m) {G0 H0 G H : Hp} {σ : L2.St} {W : WX} (ok : Ok M G0 H0 G H m) (so : SOk X.K M H0 G H σ sl) (wi : Wis M X KE G H σ W) {pins : List (Addr × Obj)} {s : Shared} (I : Inv X pins σ H s) {Q : List Value → Shared → Prop}
    (k : ∀ us s' vs ds m' G' H', PA' ds m' → Ok M G0 H0 G' H' m' → Ok M G H G' H' m' → SOk X.K M H0 G' H' σ sl → Wis M X KE G' H' σ W → Reps X.K G' vs ds → Inv X pins σ H' s' → Vals vs us → Q us s') (pos : Pos) : wpAny (model X.prog X.w) X.A (spliced (backTo pos (starEach es X.env))) Q X.xe s :=
  thn (h G0 H0 G H σ W (fun vs H' => ∃ ds m' G', PA' ds m' ∧ Ok M G H G' H' m' ∧ Reps X.K G' vs ds) ok so wi (fun v d m' G' H' p o r => ⟨d, m', G', p, o, r⟩) pos pins s I)
    fun u s' ⟨v, H', I', rv, d, m', G', p, o, r⟩ => k u s' v d m' G' H' p (ok.trans o) o (so.step o) (wi.step o) r I' rv
/-- by the reading of a judgement of the layer -/
theorem wpE.evd {t : TE} (p : PE X e t) {G0 H0 G H : Hp} (h : ∀ σ W Q, Ok M G0 H0 G H m → SOk X.K M H0 G H σ sl → Wis M X KE G H σ W → Post M X.K G H P Q → t σ H Q) : ∀ σ W Q, Ok M G0 H0 G H m → SOk X.K M H0 G H σ sl → Wis M X KE G H σ W → Post M X.K G H P Q → wpE X e σ H Q :=
  fun σ W Q a b c d => wpE.of p (h σ W Q a b c d)

theorem evd_op {op : Operator} (h : EvD M X KE a sl (fun x m1 => EvD M X KE b sl (fun y m2 => OpD M X KE (binaryOp op) x y P m2) m1) m) : EvD M X KE (.BinOp a op b pos) sl P m := by
  intro G0 H0 G H σ W Q ok so wi po pins s I
  refine wpAny_BinOp (h.run ok so wi I fun u s1 v d m1 G1 H1 p1 k1 o1 so1 wi1 r1 I1 rv1 => ?_)
  refine p1.run k1 so1 wi1 I1 fun u2 s2 v2 d2 m2 G2 H2 p2 k2 o2 so2 wi2 r2 I2 rv2 => ?_
  exact p2 G2 H2 σ W Q v v2 k2.here wi2 (r1.mono o2.le) r2 (po.step (o1.trans o2)) pins s2 u u2 I2 rv1 rv2
theorem evd_un {op : UnaryOp} (h : EvD M X KE a sl (fun x m1 => UnD M X KE (unaryOp op) x P m1) m) : EvD M X KE (.UnaryOp op a pos) sl P m := by
  intro G0 H0 G H σ W Q ok so wi po pins s I
  refine UnaryOp_ (h.run ok so wi I fun u s1 v d m1 G1 H1 p1 k1 o1 so1 wi1 r1 I1 rv1 => ?_)
  exact p1 G1 H1 σ W Q v k1.here wi1 r1 (po.step o1) pins s1 u I1 rv1
theorem evd_cmp {op : CmpOp} (h : EvD M X KE a sl (fun x m1 => EvD M X KE b sl (fun y m2 => OpD M X KE (compareOp op) x y P m2) m1) m) (hm : behindInMarks op b = false := by with_unfolding_all first | exact nomark _ | rfl) : EvD M X KE (.Compare a [op] [b] pos) sl P m := by
  intro G0 H0 G H σ W Q ok so wi po pins s I
  refine wpAny_Compare1 (h.run ok so wi I fun u s1 v d m1 G1 H1 p1 k1 o1 so1 wi1 r1 I1 rv1 => ?_) hm
  refine p1.run k1 so1 wi1 I1 fun u2 s2 v2 d2 m2 G2 H2 p2 k2 o2 so2 wi2 r2 I2 rv2 => ?_
  exact p2 G2 H2 σ W Q v v2 k2.here wi2 (r1.mono o2.le) r2 (po.step (o1.trans o2)) pins s2 u u2 I2 rv1 rv2
/-- as tests -/
theorem evt_cmp {op : CmpOp} (h : EvD M X KE a sl (fun x m1 => EvD M X KE b sl (fun y m2 => OpD M X KE (compareOp op) x y (fun z m3 => ∃ k, z = .bl k ∧ PT' k m3) m2) m1) m) (hm : behindInMarks op b = false := by with_unfolding_all first | exact nomark _ | rfl) : EvT M X KE (.Compare a [op] [b] pos) sl PT' m := by
  intro G0 H0 G H σ W Q ok so wi po pins s I
  refine wpAny_isTrue_Compare1 (h.run ok so wi I fun u s1 v d m1 G1 H1 p1 k1 o1 so1 wi1 r1 I1 rv1 => ?_) hm
  refine p1.run k1 so1 wi1 I1 fun u2 s2 v2 d2 m2 G2 H2 p2 k2 o2 so2 wi2 r2 I2 rv2 => ?_
  refine thn (p2 G2 H2 σ W (fun v H' => ∃ k, v = .bl k ∧ Q k H') v v2 k2.here wi2 (r1.mono o2.le) r2 (fun z d3 m3 G3 H3 p3 o3 r3 => ?_) pins s2 u u2 I2 rv1 rv2) fun c s3 ⟨z, H3, I3, r3, k, e, q3⟩ => ?_
  · obtain ⟨k, rfl, p⟩ := p3
    exact ⟨k, r3.bl_inv, po k m3 G3 H3 p ((o1.trans o2).trans o3)⟩
  · subst e
    cases r3
    exact wpAny_truthy_bool ⟨H3, I3, q3⟩
theorem evt_val (h : EvD M X KE e sl (fun z m3 => ∃ k, z = .bl k ∧ PT' k m3) m) (he : ∀ whole, isTrue e X.env whole = (do let v ← whole; standAt e.pos; holding [v] (truthy v)) := by with_unfolding_all (intro _; rfl)) : EvT M X KE e sl PT' m := by
  intro G0 H0 G H σ W Q ok so wi po pins s I
  refine isTrue_plain (h.run ok so wi I fun u s1 v d m1 G1 H1 p1 k1 o1 so1 wi1 r1 I1 rv1 => ?_) (he _)
  obtain ⟨k, rfl, p⟩ := p1
  cases r1.bl_inv
  cases rv1
  exact wpAny_truthy_bool ⟨H1, I1, po k m1 G1 H1 p o1⟩
/-- by truth -/
def DaTru : Da → Bool → Prop
  | .non, k => k = false
  | .bl b, k => k = b
  | .int i, k => k = decide (i ≠ 0)
  | .str y, k => y.length ≤ sizeLine ∧ k = decide (y.length ≠ 0)
  | .lst ds, k => k = !ds.isEmpty
  | .tup ds, k => k = !ds.isEmpty
  | _, _ => False
theorem rep_tru {K : PySem.W.Frag} {G H : Hp} {v : V} {d : Da} {k : Bool} (s : Same G H) (r : Rep K G v d) (h : DaTru d k) : TruV K v H k := by
  cases r with
  | non => exact h
  | bl b => exact h
  | int i => rw [show k = _ from h]; show _ = (i != 0); simp [bne, BEq.beq]
  | str y =>
    refine ⟨h.1, ?_⟩
    rw [h.2]
    by_cases e : y.length = 0
    · simp [e]
    · have e2 : ((y.length : Int) != 0) = true := by simp [bne]; omega
      rw [e2]; simp [e]
  | ty n => exact h.elim
  | ref a => exact h.elim
  | tup q r => exact .inr (.inl ⟨_, sqT_same s q, by rw [show k = _ from h]; cases r <;> rfl⟩)
  | lst q r => exact .inl ⟨_, sq_l (s _ _ q), by rw [show k = _ from h]; cases r <;> rfl⟩
  | dct _ _ => exact h.elim
  | obj _ _ => exact h.elim
  | exc _ _ => exact h.elim
theorem evt_truth (h : EvD M X KE e sl (fun z m3 => ∃ k, DaTru z k ∧ PT' k m3) m) (he : ∀ whole, isTrue e X.env whole = (do let v ← whole; standAt e.pos; holding [v] (truthy v)) := by with_unfolding_all (intro _; rfl)) : EvT M X KE e sl PT' m := by
  intro G0 H0 G H σ W Q ok so wi po
  refine wpT.of (pt_truth (pe_wp) he) ?_
  refine h G0 H0 G H σ W _ ok so wi fun v d m' G' H' p o r => ?_
  obtain ⟨k, t, p⟩ := p
  exact ⟨k, rep_tru o.sub r t, po k m' G' H' p o⟩
theorem evt_not (h : EvT M X KE e sl (fun b m1 => PT' (!b) m1) m) : EvT M X KE (.UnaryOp .Not e pos) sl PT' m := fun G0 H0 G H σ W Q ok so wi po =>
  wpT.of (pt_not pt_wp) (h G0 H0 G H σ W (fun b H' => Q (!b) H') ok so wi fun b m' G' H' p o => po (!b) m' G' H' p o)
theorem evt_w (h : EvW M X KE e sl PT' m) : EvT M X KE e sl PT' m := fun G0 H0 G H σ W Q ok so wi po => wpT.of (PW.pt pw_wp) (h G0 H0 G H σ W Q ok so wi po)
theorem evw_and1 (h : EvT M X KE e sl PT' m) : EvW M X KE (.BoolOp .And [e] pos) sl PT' m := fun G0 H0 G H σ W Q ok so wi po => wpW.of (pw_and1 pt_wp) (h G0 H0 G H σ W Q ok so wi po)
theorem evw_or1 (h : EvT M X KE e sl PT' m) : EvW M X KE (.BoolOp .Or [e] pos) sl PT' m := fun G0 H0 G H σ W Q ok so wi po => wpW.of (pw_or1 pt_wp) (h G0 H0 G H σ W Q ok so wi po)
theorem evw_and (h : EvT M X KE a sl (fun k m1 => if k = true then EvW M X KE (.BoolOp .And (b :: es) pos) sl PT' m1 else PT' false m1) m) : EvW M X KE (.BoolOp .And (a :: b :: es) pos) sl PT' m := fun G0 H0 G H σ W Q ok so wi po =>
  wpW.of (pw_and pt_wp pw_wp) (h G0 H0 G H σ W _ ok so wi fun k m' G' H' p o => by
    cases k with
    | true => exact p G0 H0 G' H' σ W Q (ok.trans o) (so.step o) (wi.step o) (po.step o)
    | false => exact po false m' G' H' p o)
theorem evw_or (h : EvT M X KE a sl (fun k m1 => if k = true then PT' true m1 else EvW M X KE (.BoolOp .Or (b :: es) pos) sl PT' m1) m) : EvW M X KE (.BoolOp .Or (a :: b :: es) pos) sl PT' m := fun G0 H0 G H σ W Q ok so wi po =>
  wpW.of (pw_or pt_wp pw_wp) (h G0 H0 G H σ W _ ok so wi fun k m' G' H' p o => by
    cases k with
    | false => exact p G0 H0 G' H' σ W Q (ok.trans o) (so.step o) (wi.step o) (po.step o)
    | true => exact po true m' G' H' p o)
/-- as values -/
theorem evd_and1 {op : BoolOp} (h : EvD M X KE e sl P m) : EvD M X KE (.BoolOp op [e] pos) sl P m := fun G0 H0 G H σ W Q ok so wi po => wpE.of (pe_one pe_wp) (h G0 H0 G H σ W Q ok so wi po)
theorem evd_and (h : EvD M X KE a sl (fun z m1 => ∃ k, z = .bl k ∧ if k = true then EvD M X KE (.BoolOp .And (b :: es) pos) sl P m1 else P (.bl false) m1) m) : EvD M X KE (.BoolOp .And (a :: b :: es) pos) sl P m := fun G0 H0 G H σ W Q ok so wi po =>
  wpE.of (pe_and pe_wp pe_wp) (h G0 H0 G H σ W _ ok so wi fun v d m' G' H' p o r => by
    obtain ⟨k, rfl, p⟩ := p
    refine ⟨k, r.bl_inv, ?_⟩
    cases k with
    | true => exact p G0 H0 G' H' σ W Q (ok.trans o) (so.step o) (wi.step o) (po.step o)
    | false => exact po _ _ m' G' H' p o (.bl false))
theorem evd_or (h : EvD M X KE a sl (fun z m1 => ∃ k, z = .bl k ∧ if k = true then P (.bl true) m1 else EvD M X KE (.BoolOp .Or (b :: es) pos) sl P m1) m) : EvD M X KE (.BoolOp .Or (a :: b :: es) pos) sl P m := fun G0 H0 G H σ W Q ok so wi po =>
  wpE.of (pe_or pe_wp pe_wp) (h G0 H0 G H σ W _ ok so wi fun v d m' G' H' p o r => by
    obtain ⟨k, rfl, p⟩ := p
    refine ⟨k, r.bl_inv, ?_⟩
    cases k with
    | false => exact p G0 H0 G' H' σ W Q (ok.trans o) (so.step o) (wi.step o) (po.step o)
    | true => exact po _ _ m' G' H' p o (.bl true))
theorem evd_not (h : EvD M X KE a sl (fun z m1 => ∃ k, z = .bl k ∧ P (.bl (!k)) m1) m) : EvD M X KE (.UnaryOp .Not a pos) sl P m := fun G0 H0 G H σ W Q ok so wi po =>
  wpE.of (pe_not pe_wp) (h G0 H0 G H σ W _ ok so wi fun v d m' G' H' p o r => by
    obtain ⟨k, rfl, p⟩ := p
    exact ⟨k, r.bl_inv, po _ _ m' G' H' p o (.bl _)⟩)
theorem evd_notT (h : EvD M X KE a sl (fun z m1 => ∃ k, DaTru z k ∧ P (.bl (!k)) m1) m) : EvD M X KE (.UnaryOp .Not a pos) sl P m := fun G0 H0 G H σ W Q ok so wi po =>
  wpE.of (pe_notT pe_wp) (h G0 H0 G H σ W _ ok so wi fun v d m' G' H' p o r => by
    obtain ⟨k, t, p⟩ := p
    exact ⟨k, rep_tru o.sub r t, po _ _ m' G' H' p o (.bl _)⟩)
theorem evd_if (h : EvT M X KE c sl (fun k m1 => if k = true then EvD M X KE a sl P m1 else EvD M X KE b sl P m1) m) : EvD M X KE (.IfExp c a b pos) sl P m := fun G0 H0 G H σ W Q ok so wi po =>
  wpE.of (pe_ifExp pt_wp pe_wp pe_wp) (h G0 H0 G H σ W _ ok so wi fun k m' G' H' p o => by
    cases k with
    | true => exact p G0 H0 G' H' σ W Q (ok.trans o) (so.step o) (wi.step o) (po.step o)
    | false => exact p G0 H0 G' H' σ W Q (ok.trans o) (so.step o) (wi.step o) (po.step o))
theorem eva_nil (k : PA' [] m) : EvA M X KE [] sl PA' m := fun _ _ G H _ _ _ ok _ _ po => wpA.of pa_nil (po _ _ m G H k ok.here .nil)
theorem eva_cons (h : EvD M X KE e sl (fun d m1 => EvA M X KE es sl (fun ds m2 => PA' (d :: ds) m2) m1) m) (hs : starEach (e :: es) X.env = (false, eval e X.env) :: starEach es X.env := by with_unfolding_all rfl) : EvA M X KE (e :: es) sl PA' m := fun G0 H0 G H σ W Q ok so wi po =>
  wpA.of (pa_cons pe_wp pa_wp hs) (h G0 H0 G H σ W _ ok so wi fun v d m' G' H' p o r => p G0 H0 G' H' σ W _ (ok.trans o) (so.step o) (wi.step o) fun vs ds m2 G2 H2 p2 o2 r2 => po _ _ m2 G2 H2 p2 (o.trans o2) (.cons (r.mono o2.le) r2))
theorem evd_tuple {x1} (h : EvA M X KE es sl (fun ds m1 => ds.length ≤ sizeLine ∧ P (.tup ds) m1) m) : EvD M X KE (.Tuple es x1 pos) sl P m := fun G0 H0 G H σ W Q ok so wi po =>
  wpE.of (pe_tup pa_wp) (h G0 H0 G H σ W _ ok so wi fun vs ds m1 G1 H1 ⟨l, p⟩ o r => ⟨by rw [r.length]; exact l, fun q hq => by
    have al := o.here.alloc (o := .tup vs) hq
    exact po _ _ m1 _ _ p (o.trans al) (.tup (sq_t upd_same) (r.mono al.le))⟩)
theorem evd_list (h : EvA M X KE es sl (fun ds m1 => ds.length ≤ sizeLine ∧ P (.lst ds) m1) m) : EvD M X KE (.List es pos) sl P m := fun G0 H0 G H σ W Q ok so wi po =>
  wpE.of (pe_lst pa_wp) (h G0 H0 G H σ W _ ok so wi fun vs ds m1 G1 H1 ⟨l, p⟩ o r => ⟨by rw [r.length]; exact l, fun q hq => by
    have al := o.here.alloc (o := .lst vs) hq
    exact po _ _ m1 _ _ p (o.trans al) (.lst upd_same (r.mono al.le))⟩)
theorem evd_ix (h : EvD M X KE a sl (fun x m1 => EvD M X KE b sl (fun y m2 => IxD M X KE x y P m2) m1) m) (hs : PlainIx b := by with_unfolding_all (intro _ _; rfl)) : EvD M X KE (.Subscript a b pos) sl P m := by
  intro G0 H0 G H σ W Q ok so wi po pins s I
  refine Subscript_ (h.run ok so wi I fun u s1 v d m1 G1 H1 p1 k1 o1 so1 wi1 r1 I1 rv1 => ?_)
  refine p1.run k1 so1 wi1 I1 fun u2 s2 v2 d2 m2 G2 H2 p2 k2 o2 so2 wi2 r2 I2 rv2 => ?_
  exact p2 G2 H2 σ W Q v v2 k2.here wi2 (r1.mono o2.le) r2 (po.step (o1.trans o2)) a b pins s2 u u2 I2 rv1 rv2 (hs _ _)
end
end OZ

/-! ### operators on data -/
namespace OZ
open PySem L2 PySem.Spec PyProof.Rows
mutual
def toPD : Da → PyData
  | .non => .none | .bl b => .bool b | .int i => .int i | .str s => .str s
  | .tup ds => .tuple (toPDs ds) | .lst ds => .list (toPDs ds)
  | .ty _ => .none | .ref _ => .none | .dct _ => .none | .obj _ _ => .none | .exc _ _ _ => .none
def toPDs : List Da → List PyData
  | [] => [] | d :: ds => toPD d :: toPDs ds
end
mutual
/-- plain data: no objects, all texts within the line of what can be laid -/
def plD : Da → Bool
  | .non => true | .bl _ => true | .int _ => true | .str _ => true
  | .tup ds => plDs ds | .lst ds => plDs ds
  | .ty _ => false | .ref _ => false | .dct _ => false | .obj _ _ => false | .exc _ _ _ => false
def plDs : List Da → Bool
  | [] => true | d :: ds => plD d && plDs ds
end
mutual
def dpt : Da → Nat
  | .tup ds => dpts ds + 1 | .lst ds => dpts ds + 1
  | .non => 0 | .bl _ => 0 | .int _ => 0 | .str _ => 0 | .ty _ => 0 | .ref _ => 0 | .dct _ => 0 | .obj _ _ => 0 | .exc _ _ _ => 0
def dpts : List Da → Nat
  | [] => 0 | d :: ds => max (dpt d) (dpts ds)
end
mutual
/-- == of plain data -/
def deq : Da → Da → Bool
  | .non, .non => true
  | .bl a, .bl b => a == b
  | .bl a, .int j => (if a then 1 else 0) == j
  | .int i, .bl b => i == (if b then 1 else 0)
  | .int i, .int j => decide (i = j)
  | .str x, .str y => decide (x = y)
  | .lst xs, .lst ys => deqs xs ys
  | .tup xs, .tup ys => deqs xs ys
  | _, _ => false
def deqs : List Da → List Da → Bool
  | [], [] => true
  | x :: xs, y :: ys => deq x y && deqs xs ys
  | [], _ :: _ => false
  | _ :: _, [] => false
end
mutual
theorem toPD_lay : ∀ d : Da, plD d = true → (toPD d).plain = true
  | .non, _ => rfl | .bl _, _ => rfl | .int _, _ => rfl
  | .str _, _ => rfl
  | .tup ds, h => toPDs_lay ds h
  | .lst ds, h => toPDs_lay ds h
  | .ty _, h => by cases h | .ref _, h => by cases h | .dct _, h => by cases h | .obj _ _, h => by cases h | .exc _ _ _, h => by cases h
theorem toPDs_lay : ∀ ds : List Da, plDs ds = true → PyData.plainAll (toPDs ds) = true
  | [], _ => rfl
  | d :: ds, h => by
    simp only [plDs, Bool.and_eq_true] at h
    simp only [toPDs, PyData.plainAll, Bool.and_eq_true]
    exact ⟨toPD_lay d h.1, toPDs_lay ds h.2⟩
end
mutual
theorem toPD_dpt : ∀ d : Da, (toPD d).depth = dpt d
  | .non => rfl | .bl _ => rfl | .int _ => rfl | .str s => rfl
  | .tup ds => by simp only [toPD, PyData.depth, dpt, toPDs_dpt ds]
  | .lst ds => by simp only [toPD, PyData.depth, dpt, toPDs_dpt ds]
  | .ty _ => rfl | .ref _ => rfl | .dct _ => rfl | .obj _ _ => rfl | .exc _ _ _ => rfl
theorem toPDs_dpt : ∀ ds : List Da, PyData.depthAll (toPDs ds) = dpts ds
  | [] => rfl
  | d :: ds => by simp only [toPDs, PyData.depthAll, dpts, toPD_dpt d, toPDs_dpt ds]
end
mutual
theorem toPD_eqv : ∀ d e : Da, plD d = true → plD e = true → PyData.eqv (toPD d) (toPD e) = deq d e
  | .non, e, _, h => by cases e <;> first | rfl | (cases h; done)
  | .bl _, e, _, h => by cases e <;> first | rfl | (cases h; done)
  | .int i, e, _, h => by cases e <;> first | rfl | (simp [toPD, PyData.eqv, deq, BEq.beq]; done) | (cases h; done)
  | .str s, e, _, h => by cases e <;> first | rfl | (simp only [toPD, PyData.eqv, deq]; rw [Bool.eq_iff_iff]; simp; done) | (cases h; done)
  | .tup ds, e, h1, h => by
    cases e with
    | tup es => simp only [toPD, PyData.eqv, deq]; exact toPDs_eqv ds es h1 h
    | _ => first | rfl | (cases h; done)
  | .lst ds, e, h1, h => by
    cases e with
    | lst es => simp only [toPD, PyData.eqv, deq]; exact toPDs_eqv ds es h1 h
    | _ => first | rfl | (cases h; done)
  | .ty _, _, h, _ => by cases h
  | .ref _, _, h, _ => by cases h
  | .dct _, _, h, _ => by cases h
  | .obj _ _, _, h, _ => by cases h
  | .exc _ _ _, _, h, _ => by cases h
theorem toPDs_eqv : ∀ d e : List Da, plDs d = true → plDs e = true → PyData.eqvAll (toPDs d) (toPDs e) = deqs d e
  | [], [], _, _ => rfl
  | [], _ :: _, _, _ => rfl
  | _ :: _, [], _, _ => rfl
  | x :: xs, y :: ys, h1, h2 => by
    simp only [plDs, Bool.and_eq_true] at h1 h2
    simp only [toPDs, PyData.eqvAll, deqs, toPD_eqv x y h1.1 h2.1, toPDs_eqv xs ys h1.2 h2.2]
end
mutual
theorem Rep.dp {K : PySem.W.Frag} {G : Hp} : ∀ {v : V} {d : Da}, plD d = true → Rep K G v d → Dp K G v (toPD d)
  | _, _, _, .non => .non
  | _, _, _, .bl b => .bl b
  | _, _, _, .int b => .int b
  | _, _, _, .str b => .str b
  | _, _, h, .tup q r => .tup q (Reps.dp h r)
  | _, _, h, .lst q r => .lst (sq_l q) (Reps.dp h r)
  | _, _, h, .ty _ => by cases h
  | _, _, h, .ref _ => by cases h
  | _, _, h, .dct _ _ => by cases h
  | _, _, h, .obj _ _ => by cases h
  | _, _, h, .exc _ _ => by cases h
theorem Reps.dp {K : PySem.W.Frag} {G : Hp} : ∀ {v : List V} {d : List Da}, plDs d = true → Reps K G v d → DpAll K G v (toPDs d)
  | _, _, _, .nil => .nil
  | _, _, h, .cons a b => by
    simp only [plDs, Bool.and_eq_true] at h
    exact .cons (Rep.dp h.1 a) (Reps.dp h.2 b)
end
/-- ==, != of data without dicts -/
theorem op_eqP {X : Cx} (hu : X.A.units + 64 < cLine) : OpR X (compareOp .Eq) (fun x y H Q => ∃ d e, Dp X.K H x d ∧ Dp X.K H y e ∧ d.plain = true ∧ e.plain = true ∧ d.depth ≤ 64 ∧ Q (.bl (PyData.eqv d e)) H) := fun pins s σ H x y v u Q I rx ry h => by
  obtain ⟨d, e, hd, he, sd, se, l, q⟩ := h
  obtain ⟨as, r1⟩ := Dp.reads I d x v hd rx
  obtain ⟨bs, r2⟩ := Dp.reads I e y u he ry
  exact SeqAt.eq_plain r1 r2 sd se (by omega) ⟨.bl _, H, I, rfl, q⟩
theorem op_neP {X : Cx} (hu : X.A.units + 64 < cLine) : OpR X (compareOp .NotEq) (fun x y H Q => ∃ d e, Dp X.K H x d ∧ Dp X.K H y e ∧ d.plain = true ∧ e.plain = true ∧ d.depth ≤ 64 ∧ Q (.bl (!PyData.eqv d e)) H) := fun pins s σ H x y v u Q I rx ry h => by
  obtain ⟨d, e, hd, he, sd, se, l, q⟩ := h
  obtain ⟨as, r1⟩ := Dp.reads I d x v hd rx
  obtain ⟨bs, r2⟩ := Dp.reads I e y u he ry
  exact SeqAt.ne_plain r1 r2 sd se (by omega) ⟨.bl _, H, I, rfl, q⟩

section
variable {M : Mode} {X : Cx} {KE : Kx} {P : Da → Nat → Prop} {m : Nat} {i j : Int}
theorem opd_add (k : P (.int (i + j)) m) : OpD M X KE (binaryOp .Add) (.int i) (.int j) P m := .of op_add fun G H _ _ _ ok r1 r2 po => ⟨i, j, r1.int_inv, r2.int_inv, po _ _ m G H k ok (.int _)⟩
theorem opd_sub (k : P (.int (i - j)) m) : OpD M X KE (binaryOp .Sub) (.int i) (.int j) P m := .of op_sub fun G H _ _ _ ok r1 r2 po => ⟨i, j, r1.int_inv, r2.int_inv, po _ _ m G H k ok (.int _)⟩
theorem opd_mul (c : CMul i j) (k : P (.int (i * j)) m) : OpD M X KE (binaryOp .Mult) (.int i) (.int j) P m := .of op_mul fun G H _ _ _ ok r1 r2 po => ⟨i, j, r1.int_inv, r2.int_inv, c, po _ _ m G H k ok (.int _)⟩
theorem opd_mulW (c : CMulW i j) (k : P (.int (i * j)) m) : OpD M X KE (binaryOp .Mult) (.int i) (.int j) P m := .of op_mulW fun G H _ _ _ ok r1 r2 po => ⟨i, j, r1.int_inv, r2.int_inv, c, po _ _ m G H k ok (.int _)⟩
theorem opd_mod (c : 0 < j) (k : P (.int (i % j)) m) : OpD M X KE (binaryOp .Mod) (.int i) (.int j) P m := .of op_mod fun G H _ _ _ ok r1 r2 po => ⟨i, j, r1.int_inv, r2.int_inv, c, po _ _ m G H k ok (.int _)⟩
theorem opd_fdiv (c : CDivW i j) (k : P (.int (i / j)) m) : OpD M X KE (binaryOp .FloorDiv) (.int i) (.int j) P m := .of op_fdivW fun G H _ _ _ ok r1 r2 po => ⟨i, j, r1.int_inv, r2.int_inv, c, po _ _ m G H k ok (.int _)⟩
theorem opd_pow (c : CPow i j) (k : P (.int (i ^ j.toNat)) m) : OpD M X KE (binaryOp .Pow) (.int i) (.int j) P m := .of op_pow fun G H _ _ _ ok r1 r2 po => ⟨i, j, r1.int_inv, r2.int_inv, c, po _ _ m G H k ok (.int _)⟩
theorem opd_shl (c : CPow i j) (k : P (.int (i * 2 ^ j.toNat)) m) : OpD M X KE (binaryOp .LShift) (.int i) (.int j) P m := .of op_shl fun G H _ _ _ ok r1 r2 po => ⟨i, j, r1.int_inv, r2.int_inv, c, po _ _ m G H k ok (.int _)⟩
theorem opd_shr (c : 0 ≤ j) (k : P (.int (i / 2 ^ j.toNat)) m) : OpD M X KE (binaryOp .RShift) (.int i) (.int j) P m := .of op_shr fun G H _ _ _ ok r1 r2 po => ⟨i, j, r1.int_inv, r2.int_inv, c, po _ _ m G H k ok (.int _)⟩
theorem opd_and (k : P (.int (Builtin.bitAnd i j)) m) : OpD M X KE (binaryOp .BitAnd) (.int i) (.int j) P m := .of op_and fun G H _ _ _ ok r1 r2 po => ⟨i, j, r1.int_inv, r2.int_inv, po _ _ m G H k ok (.int _)⟩
theorem opd_lt (k : P (.bl (decide (i < j))) m) : OpD M X KE (compareOp .Lt) (.int i) (.int j) P m := .of op_lt fun G H _ _ _ ok r1 r2 po => ⟨i, j, r1.int_inv, r2.int_inv, po _ _ m G H k ok (.bl _)⟩
theorem opd_le (k : P (.bl (decide (i ≤ j))) m) : OpD M X KE (compareOp .LtE) (.int i) (.int j) P m := .of op_le fun G H _ _ _ ok r1 r2 po => ⟨i, j, r1.int_inv, r2.int_inv, po _ _ m G H k ok (.bl _)⟩
theorem opd_gt (k : P (.bl (decide (j < i))) m) : OpD M X KE (compareOp .Gt) (.int i) (.int j) P m := .of op_gt fun G H _ _ _ ok r1 r2 po => ⟨i, j, r1.int_inv, r2.int_inv, po _ _ m G H k ok (.bl _)⟩
theorem opd_ge (k : P (.bl (decide (j ≤ i))) m) : OpD M X KE (compareOp .GtE) (.int i) (.int j) P m := .of op_ge fun G H _ _ _ ok r1 r2 po => ⟨i, j, r1.int_inv, r2.int_inv, po _ _ m G H k ok (.bl _)⟩
theorem und_neg (k : P (.int (-i)) m) : UnD M X KE (unaryOp .USub) (.int i) P m := .of un_neg fun G H _ _ ok r1 po => ⟨i, r1.int_inv, po _ _ m G H k ok (.int _)⟩
/-- ==, != of plain data -/
theorem opd_eq {x y : Da} (hu : X.A.units + 64 < cLine) (h1 : plD x = true) (h2 : plD y = true) (l1 : dpt x ≤ 64) (l2 : dpt y ≤ 64) (k : P (.bl (deq x y)) m) : OpD M X KE (compareOp .Eq) x y P m :=
  .of (op_eqP hu) fun G H _ _ _ ok r1 r2 po => ⟨_, _, (r1.mono ok.sub).dp h1, (r2.mono ok.sub).dp h2, toPD_lay x h1, toPD_lay y h2, by rw [toPD_dpt]; exact l1, by rw [toPD_eqv x y h1 h2]; exact po _ _ m G H k ok (.bl _)⟩
theorem opd_ne {x y : Da} (hu : X.A.units + 64 < cLine) (h1 : plD x = true) (h2 : plD y = true) (l1 : dpt x ≤ 64) (l2 : dpt y ≤ 64) (k : P (.bl (!deq x y)) m) : OpD M X KE (compareOp .NotEq) x y P m :=
  .of (op_neP hu) fun G H _ _ _ ok r1 r2 po => ⟨_, _, (r1.mono ok.sub).dp h1, (r2.mono ok.sub).dp h2, toPD_lay x h1, toPD_lay y h2, by rw [toPD_dpt]; exact l1, by rw [toPD_eqv x y h1 h2]; exact po _ _ m G H k ok (.bl _)⟩
/-- ints, texts: == without a look at depth -/
theorem opd_eqI (k : P (.bl (decide (i = j))) m) : OpD M X KE (compareOp .Eq) (.int i) (.int j) P m := .of op_eq fun G H _ _ _ ok r1 r2 po => by
  cases r1.int_inv; cases r2.int_inv
  exact ⟨rfl, by rw [show decide (V.int i = V.int j) = decide (i = j) by simp]; exact po _ _ m G H k ok (.bl _)⟩
theorem opd_neI (k : P (.bl (!decide (i = j))) m) : OpD M X KE (compareOp .NotEq) (.int i) (.int j) P m := .of op_ne fun G H _ _ _ ok r1 r2 po => by
  cases r1.int_inv; cases r2.int_inv
  exact ⟨rfl, by rw [show decide (V.int i = V.int j) = decide (i = j) by simp]; exact po _ _ m G H k ok (.bl _)⟩
theorem opd_eqS {x y : Str} (k : P (.bl (decide (x = y))) m) : OpD M X KE (compareOp .Eq) (.str x) (.str y) P m := .of op_eq fun G H _ _ _ ok r1 r2 po => by
  cases r1.str_inv; cases r2.str_inv
  exact ⟨rfl, by rw [show decide (V.str x = V.str y) = decide (x = y) by simp]; exact po _ _ m G H k ok (.bl _)⟩
theorem opd_neS {x y : Str} (k : P (.bl (!decide (x = y))) m) : OpD M X KE (compareOp .NotEq) (.str x) (.str y) P m := .of op_ne fun G H _ _ _ ok r1 r2 po => by
  cases r1.str_inv; cases r2.str_inv
  exact ⟨rfl, by rw [show decide (V.str x = V.str y) = decide (x = y) by simp]; exact po _ _ m G H k ok (.bl _)⟩
theorem opd_eqB {x y : Bool} (k : P (.bl (decide (x = y))) m) : OpD M X KE (compareOp .Eq) (.bl x) (.bl y) P m := .of op_eq fun G H _ _ _ ok r1 r2 po => by
  cases r1.bl_inv; cases r2.bl_inv
  exact ⟨rfl, by rw [show decide (V.bl x = V.bl y) = decide (x = y) by simp]; exact po _ _ m G H k ok (.bl _)⟩
theorem opd_neB {x y : Bool} (k : P (.bl (!decide (x = y))) m) : OpD M X KE (compareOp .NotEq) (.bl x) (.bl y) P m := .of op_ne fun G H _ _ _ ok r1 r2 po => by
  cases r1.bl_inv; cases r2.bl_inv
  exact ⟨rfl, by rw [show decide (V.bl x = V.bl y) = decide (x = y) by simp]; exact po _ _ m G H k ok (.bl _)⟩
/-- is None -/
def isNonD : Da → Bool
  | .non => true | _ => false
theorem rep_isNon {K : PySem.W.Frag} {G : Hp} {v : V} {d : Da} (r : Rep K G v d) : decide (v = .non) = isNonD d := by
  cases r <;> simp [isNonD]
theorem opd_is {x : Da} (k : P (.bl (isNonD x)) m) : OpD M X KE (compareOp .Is) x .non P m := .of op_isN fun G H _ _ _ ok r1 r2 po => ⟨r2.non_inv, by rw [rep_isNon r1]; exact po _ _ m G H k ok (.bl _)⟩
theorem opd_isnot {x : Da} (k : P (.bl (!isNonD x)) m) : OpD M X KE (compareOp .IsNot) x .non P m := .of op_notN fun G H _ _ _ ok r1 r2 po => ⟨r2.non_inv, by rw [rep_isNon r1]; exact po _ _ m G H k ok (.bl _)⟩
/-- in a list or tuple of flat data -/
def flD : Da → Bool
  | .non => true | .bl _ => true | .int _ => true | .str _ => true | _ => false
theorem rep_flat {K : PySem.W.Frag} {G : Hp} {v : V} {d : Da} (r : Rep K G v d) (h : flD d = true) : flatV v = true := by
  cases r <;> first | rfl | cases h
theorem reps_flat {K : PySem.W.Frag} {G : Hp} : ∀ {vs : List V} {ds : List Da}, Reps K G vs ds → ds.all flD = true → vs.all flatV = true
  | _, _, .nil, _ => rfl
  | _, _, .cons a b, h => by
    simp only [List.all_cons, Bool.and_eq_true] at h ⊢
    exact ⟨rep_flat a h.1, reps_flat b h.2⟩
theorem rep_eqV {K : PySem.W.Frag} {G : Hp} {v w : V} {d e : Da} (r : Rep K G v d) (q : Rep K G w e) (h : flD d = true) (h2 : flD e = true) : eqV v w = deq d e := by
  cases r <;> first | (cases h; done) | (cases q <;> first | rfl | (simp [eqV, deq, BEq.beq]; done) | (simp only [eqV, deq]; rw [Bool.eq_iff_iff]; simp; done) | (cases h2; done))
def inD (x : Da) (ds : List Da) : Bool := ds.any fun y => deq y x
theorem reps_inV {K : PySem.W.Frag} {G : Hp} {v : V} {d : Da} (r : Rep K G v d) (h : flD d = true) : ∀ {vs : List V} {ds : List Da}, Reps K G vs ds → ds.all flD = true → inV v vs = inD d ds
  | _, _, .nil, _ => rfl
  | _, _, .cons a b, h2 => by
    simp only [List.all_cons, Bool.and_eq_true] at h2
    show (eqV _ v || inV v _) = (deq _ d || inD d _)
    rw [rep_eqV a r h2.1 h, reps_inV r h b h2.2]
theorem opd_inL {x : Da} {ds : List Da} (h : flD x = true) (h2 : ds.all flD = true) (k : P (.bl (inD x ds)) m) : OpD M X KE (compareOp .In) x (.lst ds) P m := .of op_in_seq fun G H _ _ _ ok r1 r2 po => by
  cases r2 with
  | lst q r => exact ⟨_, _, rfl, .inl (sq_l (ok.sub _ _ q)), rep_flat r1 h, reps_flat r h2, by rw [reps_inV r1 h r h2]; exact po _ _ m G H k ok (.bl _)⟩
theorem opd_inT {x : Da} {ds : List Da} (h : flD x = true) (h2 : ds.all flD = true) (k : P (.bl (inD x ds)) m) : OpD M X KE (compareOp .In) x (.tup ds) P m := .of op_in_seq fun G H _ _ _ ok r1 r2 po => by
  cases r2 with
  | tup q r => exact ⟨_, _, rfl, .inr (sqT_same ok.sub q), rep_flat r1 h, reps_flat r h2, by rw [reps_inV r1 h r h2]; exact po _ _ m G H k ok (.bl _)⟩
theorem opd_ninL {x : Da} {ds : List Da} (h : flD x = true) (h2 : ds.all flD = true) (k : P (.bl (!inD x ds)) m) : OpD M X KE (compareOp .NotIn) x (.lst ds) P m := .of op_notIn_seq fun G H _ _ _ ok r1 r2 po => by
  cases r2 with
  | lst q r => exact ⟨_, _, rfl, .inl (sq_l (ok.sub _ _ q)), rep_flat r1 h, reps_flat r h2, by rw [reps_inV r1 h r h2]; exact po _ _ m G H k ok (.bl _)⟩
theorem opd_ninT {x : Da} {ds : List Da} (h : flD x = true) (h2 : ds.all flD = true) (k : P (.bl (!inD x ds)) m) : OpD M X KE (compareOp .NotIn) x (.tup ds) P m := .of op_notIn_seq fun G H _ _ _ ok r1 r2 po => by
  cases r2 with
  | tup q r => exact ⟨_, _, rfl, .inr (sqT_same ok.sub q), rep_flat r1 h, reps_flat r h2, by rw [reps_inV r1 h r h2]; exact po _ _ m G H k ok (.bl _)⟩
/-- dicts -/
def look {α : Type} (k : Key) : List (Key × α) → Option α
  | [] => none
  | (j, v) :: r => if j = k then some v else look k r
theorem repK_look {K : PySem.W.Frag} {G : Hp} {k : Key} : ∀ {kvs : List (Key × V)} {ks : List (Key × Da)}, RepK K G kvs ks → (∀ d, look k ks = some d → ∃ v, valV kvs k = some v ∧ Rep K G v d) ∧ (look k ks = none → valV kvs k = none)
  | _, _, .nil => ⟨fun _ h => (by cases h), fun _ => rfl⟩
  | _, _, .cons (k := j) a b => by
    obtain ⟨i1, i2⟩ := repK_look (k := k) b
    by_cases e : j = k
    · refine ⟨fun d h => ?_, fun h => ?_⟩
      · simp only [look, if_pos e] at h; cases h
        exact ⟨_, valV_pos e, a⟩
      · simp only [look, if_pos e] at h; cases h
    · refine ⟨fun d h => ?_, fun h => ?_⟩
      · simp only [look, if_neg e] at h
        rw [valV_neg e]; exact i1 d h
      · simp only [look, if_neg e] at h
        rw [valV_neg e]; exact i2 h
def keyD : Key → Da
  | .inl i => .int i
  | .inr s => .str s
theorem rep_key {K : PySem.W.Frag} {G : Hp} {v : V} {k : Key} (r : Rep K G v (keyD k)) : v = kV k := by
  cases k with
  | inl i => exact Rep.int_inv r
  | inr s => exact Rep.str_inv r
theorem repK_get {K : PySem.W.Frag} {G : Hp} {kvs : List (Key × V)} {ks : List (Key × Da)} {k : Key} (r : RepK K G kvs ks) : ∃ o : Option V, valV kvs k = o ∧ o.isSome = (look k ks).isSome ∧ ∀ d, look k ks = some d → ∃ v, o = some v ∧ Rep K G v d := by
  obtain ⟨i1, i2⟩ := repK_look (k := k) r
  cases e : look k ks with
  | none => exact ⟨none, i2 e, rfl, fun d h => by cases h⟩
  | some d =>
    obtain ⟨v, h1, h2⟩ := i1 d e
    exact ⟨some v, h1, rfl, fun d' h => by cases h; exact ⟨v, rfl, h2⟩⟩
theorem op_inDct (hu : X.A.units + 1 < cLine) : OpR X (compareOp .In) (fun x y H Q => ∃ a o, y = .ref a ∧ DGet H a x o ∧ Q (.bl o.isSome) H) := fun pins s σ H x y v u Q I rx ry h => by
  obtain ⟨a, o, rfl, g, q⟩ := h
  cases ry
  exact d_in hu I g rx fun s3 I3 => ⟨.bl o.isSome, H, I3, rfl, q⟩
theorem op_ninDct (hu : X.A.units + 1 < cLine) : OpR X (compareOp .NotIn) (fun x y H Q => ∃ a o, y = .ref a ∧ DGet H a x o ∧ Q (.bl (!o.isSome)) H) := fun pins s σ H x y v u Q I rx ry h => by
  obtain ⟨a, o, rfl, g, q⟩ := h
  cases ry
  exact d_notIn hu I g rx fun s3 I3 => ⟨.bl (!o.isSome), H, I3, rfl, q⟩
theorem opd_inK {k : Key} {ks : List (Key × Da)} (hu : X.A.units + 1 < cLine) (h : P (.bl (look k ks).isSome) m) : OpD M X KE (compareOp .In) (keyD k) (.dct ks) P m := .of (op_inDct hu) fun G H _ _ _ ok r1 r2 po => by
  cases r2 with
  | dct q r =>
    obtain ⟨o, e, h1, _⟩ := repK_get (k := k) r
    exact ⟨_, o, rfl, .inl ⟨_, k, .inr ⟨_, ok.sub _ _ q⟩, rep_key r1, e.symm⟩, by rw [h1]; exact po _ _ m G H h ok (.bl _)⟩
theorem opd_ninK {k : Key} {ks : List (Key × Da)} (hu : X.A.units + 1 < cLine) (h : P (.bl (!(look k ks).isSome)) m) : OpD M X KE (compareOp .NotIn) (keyD k) (.dct ks) P m := .of (op_ninDct hu) fun G H _ _ _ ok r1 r2 po => by
  cases r2 with
  | dct q r =>
    obtain ⟨o, e, h1, _⟩ := repK_get (k := k) r
    exact ⟨_, o, rfl, .inl ⟨_, k, .inr ⟨_, ok.sub _ _ q⟩, rep_key r1, e.symm⟩, by rw [h1]; exact po _ _ m G H h ok (.bl _)⟩
/-- texts -/
theorem opd_addS {x y : Str} (h : x.length + y.length ≤ sizeLine) (k : P (.str (x ++ y)) m) : OpD M X KE (binaryOp .Add) (.str x) (.str y) P m := .of op_add_str fun G H _ _ _ ok r1 r2 po => ⟨x, y, r1.str_inv, r2.str_inv, h, po _ _ m G H k ok (.str _)⟩
theorem opd_inS {x y : Str} (k : P (.bl (!(Builtin.Str.occurrences y x 0 y.length 1).isEmpty)) m) : OpD M X KE (compareOp .In) (.str x) (.str y) P m := .of op_in_str fun G H _ _ _ ok r1 r2 po => ⟨x, y, r1.str_inv, r2.str_inv, po _ _ m G H k ok (.bl _)⟩
theorem opd_ltS {x y : Str} (k : P (.bl (decide (x.cps.toList < y.cps.toList))) m) : OpD M X KE (compareOp .Lt) (.str x) (.str y) P m := .of op_lt_str fun G H _ _ _ ok r1 r2 po => ⟨x, y, r1.str_inv, r2.str_inv, po _ _ m G H k ok (.bl _)⟩
/-- lists and tuples put together -/
theorem opd_cat {xs ys : List Da} (h : xs.length + ys.length ≤ sizeLine) (k : P (.lst (xs ++ ys)) m) : OpD M X KE (binaryOp .Add) (.lst xs) (.lst ys) P m := .of op_cat fun G H _ _ _ ok r1 r2 po => by
  obtain ⟨a, us, rfl, q, r⟩ := r1.lst_inv
  obtain ⟨b, ws, rfl, q2, t⟩ := r2.lst_inv
  exact ⟨_, _, _, _, rfl, rfl, ok.sub _ _ q, ok.sub _ _ q2, by rw [r.length, t.length]; exact h, fun p hp => by
    have al := ok.alloc (o := .lst (us ++ ws)) hp
    exact po _ _ m _ _ k al (.lst upd_same ((r.append t).mono al.le))⟩
theorem opd_rep {xs : List Da} (h0 : -(2 ^ 63) ≤ j) (h1 : j < 2 ^ 63) (h : xs.length * j.toNat ≤ sizeLine) (k : P (.lst (List.replicate j.toNat xs).flatten) m) : OpD M X KE (binaryOp .Mult) (.lst xs) (.int j) P m := .of op_rep fun G H _ _ _ ok r1 r2 po => by
  cases r2.int_inv
  obtain ⟨a, us, rfl, q, r⟩ := r1.lst_inv
  have fl : ∀ n : Nat, Reps X.K G (List.replicate n us).flatten (List.replicate n xs).flatten := by
    intro n
    induction n with
    | zero => exact .nil
    | succ n ih => rw [List.replicate_succ, List.replicate_succ, List.flatten_cons, List.flatten_cons]; exact r.append ih
  exact ⟨_, j, _, rfl, rfl, ok.sub _ _ q, h0, h1, by rw [r.length]; exact h, fun p hp => by
    have al := ok.alloc (o := .lst (List.replicate j.toNat us).flatten) hp
    exact po _ _ m _ _ k al (.lst upd_same ((fl j.toNat).mono al.le))⟩
theorem opd_catT {xs ys : List Da} (h : xs.length + ys.length ≤ sizeLine) (k : P (.tup (xs ++ ys)) m) : OpD M X KE (binaryOp .Add) (.tup xs) (.tup ys) P m := .of op_catA fun G H _ _ _ ok r1 r2 po => by
  obtain ⟨a, us, rfl, q, r⟩ := r1.tup_inv
  obtain ⟨b, ws, rfl, q2, t⟩ := r2.tup_inv
  refine ⟨_, _, _, _, rfl, rfl, sqT_same ok.sub q, sqT_same ok.sub q2, by rw [r.length, t.length]; exact h, fun e => ?_, fun _ e => ?_, fun _ _ p hp => ?_⟩
  · subst e
    cases r
    exact po _ _ m _ _ k ok (.tup q2 t)
  · subst e
    cases t
    rw [List.append_nil] at k
    exact po _ _ m _ _ k ok (.tup q r)
  · have al := ok.alloc (o := .tup (us ++ ws)) hp
    exact po _ _ m _ _ k al (.tup (sq_t upd_same) ((r.append t).mono al.le))
/-- items -/
theorem atI_len {α β : Type} {xs : List α} {ys : List β} {z : β} (e : xs.length = ys.length) (h : atI ys i = some z) : ∃ j : Nat, atI xs i = xs[j]? ∧ ys[j]? = some z := by
  unfold atI at h ⊢
  cases q : ixN ys.length i with
  | none => rw [q] at h; cases h
  | some j => rw [q] at h; rw [e, q]; exact ⟨j, rfl, h⟩
theorem ixd_lst {ds : List Da} {d : Da} (h : atI ds i = some d) (k : P d m) : IxD M X KE (.lst ds) (.int i) P m := .of ix_list fun G H _ _ _ ok r1 r2 po => by
  obtain ⟨a, us, rfl, q, r⟩ := r1.lst_inv
  obtain ⟨j, e1, e2⟩ := atI_len r.length h
  obtain ⟨v, e3, rv⟩ := r.get e2
  exact ⟨a, us, i, v, rfl, r2.int_inv, sq_l (ok.sub _ _ q), e1.trans e3, po _ _ m G H k ok rv⟩
theorem ixd_tup {ds : List Da} {d : Da} (h : atI ds i = some d) (k : P d m) : IxD M X KE (.tup ds) (.int i) P m := .of ix_tup fun G H _ _ _ ok r1 r2 po => by
  obtain ⟨a, us, rfl, q, r⟩ := r1.tup_inv
  obtain ⟨j, e1, e2⟩ := atI_len r.length h
  obtain ⟨v, e3, rv⟩ := r.get e2
  exact ⟨a, us, i, v, rfl, r2.int_inv, sqT_same ok.sub q, e1.trans e3, po _ _ m G H k ok rv⟩
theorem ixd_str {z : Str} {c : Nat} (hl : z.length ≤ sizeLine) (h : atI z.cps.toList i = some c) (k : P (.str ⟨#[c]⟩) m) : IxD M X KE (.str z) (.int i) P m := .of ix_str fun G H _ _ _ ok r1 r2 po =>
  ⟨z, i, c, r1.str_inv, r2.int_inv, hl, h, po _ _ m G H k ok (.str _)⟩
theorem ix_dct (hu : X.A.units + 1 < cLine) : IxR X (fun x y H Q => ∃ a v, x = .ref a ∧ DGet H a y (some v) ∧ Q v H) := fun ve se pins s σ H x y v u Q I rx ry h hs => by
  obtain ⟨a, w, rfl, g, q⟩ := h
  cases rx
  exact tail_any (dict_typeIs I g) PySem.F.slot_dict_getitem.lookup (d_getItem hu I g ry fun w' s3 I3 rw' => ⟨w, H, I3, rw', q⟩) hs
theorem ixd_dct {k : Key} {ks : List (Key × Da)} {d : Da} (hu : X.A.units + 1 < cLine) (h : look k ks = some d) (kp : P d m) : IxD M X KE (.dct ks) (keyD k) P m := .of (ix_dct hu) fun G H _ _ _ ok r1 r2 po => by
  cases r1 with
  | dct q r =>
    obtain ⟨o, e, _, h2⟩ := repK_get (k := k) r
    obtain ⟨v, rfl, rv⟩ := h2 d h
    exact ⟨_, v, rfl, .inl ⟨_, k, .inr ⟨_, ok.sub _ _ q⟩, rep_key r2, e.symm⟩, po _ _ m G H kp ok rv⟩
end
end OZ

/-! ### calls -/
namespace OZ
open PySem L2 PySem.Spec PyProof.Rows
def CallD (M : Mode) (X : Cx) (KE : Kx) (f : Value) (ds : List Da) (P : Da → Nat → Prop) (m : Nat) : Prop :=
  ∀ (G H : Hp) (σ : L2.St) (W : WX) (Q : VK) (vs : List V), Ok M G H G H m → Wis M X KE G H σ W → Reps X.K G vs ds → Post M X.K G H P Q →
    ∀ pins s us, Inv X pins σ H s → Vals vs us → wpAny (model X.prog X.w) X.A (call f us) (EP X pins σ Q) X.xe s
section
variable {M : Mode} {X : Cx} {KE : Kx} {a e : Expr} {es : List Expr} {sl : List Sl} {P : Da → Nat → Prop} {m : Nat} {pos p : Pos} {x : Str} {id : String}
theorem CallD.of {f : Value} {r : List V → Hp → VK → Prop} {ds : List Da} (ho : CallR X f r) (h : ∀ G H Q vs, Ok M G H G H m → Reps X.K G vs ds → Post M X.K G H P Q → r vs H Q) : CallD M X KE f ds P m :=
  fun G H σ _ Q vs ok _ r po pins s us I e => ho pins s σ H vs us Q I e (h G H Q vs ok r po)
theorem calld_imp {f : Value} {ds : List Da} {P' : Da → Nat → Prop} (h : CallD M X KE f ds P m) (k : ∀ d m', P d m' → P' d m') : CallD M X KE f ds P' m :=
  fun G H σ W Q vs ok wi r po => h G H σ W Q vs ok wi r fun v d m' G' H' p => po v d m' G' H' (k d m' p)
/-- a built-in by its name -/
theorem evd_callB {N : List Str} {sc : Scope} {B : Bd} (cx : Ctx X N sc B) (hm : B.mg x = none) (h : EvA M X KE (e :: es) sl (fun ds m1 => CallD M X KE (.builtin id) ds P m1) m) (hv : bootBuiltins x = some (.builtin id) := by with_unfolding_all first | rfl | decide +kernel) (hg : GlS sc x := by with_unfolding_all rfl) (hn : x ≠ "__name__" := by with_unfolding_all decide) (hdb : (x == ("__debug__" : Str)) = false := by with_unfolding_all decide)
    (he : starEach (e :: es) X.env = (false, eval e X.env) :: starEach es X.env := by with_unfolding_all rfl) (hpl : (backTo pos (starEach es X.env)).any (·.1) = false := by with_unfolding_all rfl) : EvD M X KE (.Call (.Name x p) (e :: es) [] pos) sl P m := by
  intro G0 H0 G H σ W Q ok so wi po pins s I
  refine wpAny_Call_Name_kw (ld_blt I (cx.gl hg) (cx.mg hm) hv ?_ hn hdb)
  refine PyProof.Rows.callWith_builtin1 (h.run ok so wi I (fun us s1 vs ds m1 G1 H1 p1 k1 o1 so1 wi1 r1 I1 rv1 => ?_) pos) he hpl
  exact p1 G1 H1 σ W Q vs k1.here wi1 r1 (po.step o1) pins s1 us I1 rv1
theorem evd_callTy {N : List Str} {sc : Scope} {B : Bd} (cx : Ctx X N sc B) (hm : B.mg x = none) (h : EvA M X KE (e :: es) sl (fun ds m1 => CallD M X KE (.type id) ds P m1) m) (hv : bootBuiltins x = some (.type id) := by with_unfolding_all first | rfl | decide +kernel) (hg : GlS sc x := by with_unfolding_all rfl) (hn : x ≠ "__name__" := by with_unfolding_all decide) (hdb : (x == ("__debug__" : Str)) = false := by with_unfolding_all decide)
    (he : starEach (e :: es) X.env = (false, eval e X.env) :: starEach es X.env := by with_unfolding_all rfl) (hpl : (backTo pos (starEach es X.env)).any (·.1) = false := by with_unfolding_all rfl) : EvD M X KE (.Call (.Name x p) (e :: es) [] pos) sl P m := by
  intro G0 H0 G H σ W Q ok so wi po pins s I
  refine wpAny_Call_Name_kw (ld_blt I (cx.gl hg) (cx.mg hm) hv ?_ hn hdb)
  refine PyProof.Rows.callWith_type1 (h.run ok so wi I (fun us s1 vs ds m1 G1 H1 p1 k1 o1 so1 wi1 r1 I1 rv1 => ?_) pos) he hpl
  exact p1 G1 H1 σ W Q vs k1.here wi1 r1 (po.step o1) pins s1 us I1 rv1
/-- a built-in function that the text imports -/
theorem evd_callM {N : List Str} {sc : Scope} {B : Bd} (cx : Ctx X N sc B) (hm : B.mg x = some (.builtin id)) (h : EvA M X KE (e :: es) sl (fun ds m1 => CallD M X KE (.builtin id) ds P m1) m) (hg : GlS sc x := by with_unfolding_all rfl) (hdb : (x == ("__debug__" : Str)) = false := by with_unfolding_all decide)
    (he : starEach (e :: es) X.env = (false, eval e X.env) :: starEach es X.env := by with_unfolding_all rfl) (hpl : (backTo pos (starEach es X.env)).any (·.1) = false := by with_unfolding_all rfl) : EvD M X KE (.Call (.Name x p) (e :: es) [] pos) sl P m := by
  intro G0 H0 G H σ W Q ok so wi po pins s I
  refine wpAny_Call_Name_kw (ld_glob I (cx.gl hg) (cx.mg hm) ?_ hdb)
  refine PyProof.Rows.callWith_builtin1 (h.run ok so wi I (fun us s1 vs ds m1 G1 H1 p1 k1 o1 so1 wi1 r1 I1 rv1 => ?_) pos) he hpl
  exact p1 G1 H1 σ W Q vs k1.here wi1 r1 (po.step o1) pins s1 us I1 rv1
/-- a def of the text by its name -/
theorem evd_callF {N : List Str} {sc : Scope} {B : Bd} {f : Addr} (cx : Ctx X N sc B) (hm : B.mg x = some (.ref f)) (hk : PySem.W.keepIn X.K (.ref f) = true) (h : EvA M X KE (e :: es) sl (fun ds m1 => CallD M X KE (.ref f) ds P m1) m) (hg : GlS sc x := by with_unfolding_all rfl) (hdb : (x == ("__debug__" : Str)) = false := by with_unfolding_all decide)
    (he : starEach (e :: es) X.env = (false, eval e X.env) :: starEach es X.env := by with_unfolding_all rfl) (hpl : (backTo pos (starEach es X.env)).any (·.1) = false := by with_unfolding_all rfl) : EvD M X KE (.Call (.Name x p) (e :: es) [] pos) sl P m := by
  intro G0 H0 G H σ W Q ok so wi po pins s I
  refine wpAny_Call_Name_kw (ld_glob I (cx.gl hg) (cx.mg hm) ?_ hdb)
  refine PySem.W.callWith_K (h₀ := X.base) I.ok.mod.kin hk (h.run ok so wi I (fun us s1 vs ds m1 G1 H1 p1 k1 o1 so1 wi1 r1 I1 rv1 => ?_) pos) he hpl
  exact ⟨I1.kIn, p1 G1 H1 σ W Q vs k1.here wi1 r1 (po.step o1) pins s1 us I1 rv1⟩
theorem evd_callF0 {N : List Str} {sc : Scope} {B : Bd} {f : Addr} (cx : Ctx X N sc B) (hm : B.mg x = some (.ref f)) (hk : PySem.W.keepIn X.K (.ref f) = true) (h : CallD M X KE (.ref f) [] P m) (hg : GlS sc x := by with_unfolding_all rfl) (hdb : (x == ("__debug__" : Str)) = false := by with_unfolding_all decide) : EvD M X KE (.Call (.Name x p) [] [] pos) sl P m := by
  intro G0 H0 G H σ W Q ok so wi po pins s I
  refine wpAny_Call_Name_kw (ld_glob I (cx.gl hg) (cx.mg hm) ?_ hdb)
  refine PySem.W.callWith_K0 I.kIn hk ?_
  exact h G H σ W Q [] ok.here wi .nil po pins s [] I .nil
end

/-! ### the promise of a def, over data -/
abbrev FD := List Da → (Da → Nat → Prop) → Kx → Nat → Prop
def spD (M : Mode) (K : PySem.W.Frag) (n : Nat) (F : FD) : Sp := fun vs H Q E => vs.length = n ∧ ∃ G m ds KR KE, Ok M G H G H m ∧ Reps K G vs ds ∧ F ds KR KE m ∧ Post M K G H KR Q ∧
  (∀ C fs d m' G' H', KE C fs m' → Ok M G H G' H' m' → XRep K G' H' d fs → E (.ref C) d H')
structure FnG (M : Mode) (B : Bd) (k : Nat) (f : Addr) (n : Nat) (F : FD) : Prop where
  ex : ∃ (CX : CXT) (fd : FuncData) (ps : List Str), FnOk B.P B.w B.K B.mg B.base CX k f fd ps (spD M B.K n F) ∧ Binds B.K fd ps [] ∧ (CX = CX0 ∨ CX = L2.CX B.P B.w) ∧ n = ps.length
/-- the def that a global name holds -/
structure CallG (M : Mode) (B : Bd) (k : Nat) (x : Str) (n : Nat) (F : FD) : Prop where
  ex : ∃ f : Addr, B.mg x = some (.ref f) ∧ PySem.W.keepIn B.K (.ref f) = true ∧ FnG M B k f n F
theorem passes_any {X : Cx} {W : WX} {CX : CXT} (tk : Takes X W) (h : CX = CX0 ∨ CX = L2.CX X.prog X.w) (σ : L2.St) : PassesAt CX X σ (WE W σ) := by
  rcases h with rfl | rfl
  · exact fun _ _ _ _ _ _ q => q.elim
  · exact passAt tk σ
section
variable {M : Mode} {X : Cx} {KE : Kx} {P : Da → Nat → Prop} {m k n j : Nat} {f : Addr} {F : FD} {ds : List Da} {x : Str} {e : Expr} {es : List Expr} {sl : List Sl} {pos p : Pos}
theorem FnG.call (C : FnG M (bdOf X) k f n F) (hr : Room j X.A) (hl : ds.length = n) (h : F ds P KE m) (hk : k ≤ j := by with_unfolding_all decide) : CallD M X KE (.ref f) ds P m := by
  obtain ⟨CX, fd, ps, Fo, hb, hc, _⟩ := C.ex
  intro G H σ W Q vs ok wi r po pins s us I rv
  exact run_fnS (E := WE W) Fo (hr.mono hk) hb (passes_any wi.tk hc σ) I rv ⟨r.length.trans hl, G, m, ds, P, KE, ok, r, h, po, fun C fs d m' G' H' => wi.ex C fs d m' G' H'⟩
theorem FnG.callP (C : FnG pureM (bdOf X) k f n F) (hr : Room j X.A) (hl : ds.length = n) (h : F ds (fun d _ => P d m) (fun C fs _ => KE C fs m) 0) (hk : k ≤ j := by with_unfolding_all decide) : CallD M X KE (.ref f) ds P m := by
  obtain ⟨CX, fd, ps, Fo, hb, hc, _⟩ := C.ex
  intro G H σ W Q vs ok wi r po pins s us I rv
  exact run_fnS (E := WE W) Fo (hr.mono hk) hb (passes_any wi.tk hc σ) I rv ⟨r.length.trans hl, G, 0, ds, _, _, ok.toPure, r, h, fun v d m' G' H' p o rr => po v d m G' H' p (ok.lift o) rr, fun C fs d m' G' H' p o x => wi.ex C fs d m G' H' p (ok.lift o) x⟩
theorem evd_call {N : List Str} {sc : Scope} {B : Bd} (cx : Ctx X N sc B) (C : CallG M B k x n F) (hr : Room j X.A) (h : EvA M X KE (e :: es) sl (fun ds m1 => ds.length = n ∧ F ds P KE m1) m) (hk : k ≤ j := by with_unfolding_all decide) (hg : GlS sc x := by with_unfolding_all rfl) (hdb : (x == ("__debug__" : Str)) = false := by with_unfolding_all decide)
    (he : starEach (e :: es) X.env = (false, eval e X.env) :: starEach es X.env := by with_unfolding_all rfl) (hpl : (backTo pos (starEach es X.env)).any (·.1) = false := by with_unfolding_all rfl) : EvD M X KE (.Call (.Name x p) (e :: es) [] pos) sl P m := by
  have eb := cx.b
  subst eb
  obtain ⟨f, hm, hkp, c⟩ := C.ex
  exact evd_callF cx hm hkp (eva_imp h fun ds m1 q => c.call hr q.1 q.2 hk) hg hdb he hpl
theorem evd_callP {N : List Str} {sc : Scope} {B : Bd} (cx : Ctx X N sc B) (C : CallG pureM B k x n F) (hr : Room j X.A) (h : EvA M X KE (e :: es) sl (fun ds m1 => ds.length = n ∧ F ds (fun d _ => P d m1) (fun C fs _ => KE C fs m1) 0) m) (hk : k ≤ j := by with_unfolding_all decide) (hg : GlS sc x := by with_unfolding_all rfl) (hdb : (x == ("__debug__" : Str)) = false := by with_unfolding_all decide)
    (he : starEach (e :: es) X.env = (false, eval e X.env) :: starEach es X.env := by with_unfolding_all rfl) (hpl : (backTo pos (starEach es X.env)).any (·.1) = false := by with_unfolding_all rfl) : EvD M X KE (.Call (.Name x p) (e :: es) [] pos) sl P m := by
  have eb := cx.b
  subst eb
  obtain ⟨f, hm, hkp, c⟩ := C.ex
  exact evd_callF cx hm hkp (eva_imp h fun ds m1 q => c.callP hr q.1 q.2 hk) hg hdb he hpl
theorem evd_call0 {N : List Str} {sc : Scope} {B : Bd} (cx : Ctx X N sc B) (C : CallG M B k x 0 F) (hr : Room j X.A) (h : F [] P KE m) (hk : k ≤ j := by with_unfolding_all decide) (hg : GlS sc x := by with_unfolding_all rfl) (hdb : (x == ("__debug__" : Str)) = false := by with_unfolding_all decide) : EvD M X KE (.Call (.Name x p) [] [] pos) sl P m := by
  have eb := cx.b
  subst eb
  obtain ⟨f, hm, hkp, c⟩ := C.ex
  exact evd_callF0 cx hm hkp (c.call hr rfl h hk) hg hdb
theorem evd_callP0 {N : List Str} {sc : Scope} {B : Bd} (cx : Ctx X N sc B) (C : CallG pureM B k x 0 F) (hr : Room j X.A) (h : F [] (fun d _ => P d m) (fun C fs _ => KE C fs m) 0) (hk : k ≤ j := by with_unfolding_all decide) (hg : GlS sc x := by with_unfolding_all rfl) (hdb : (x == ("__debug__" : Str)) = false := by with_unfolding_all decide) : EvD M X KE (.Call (.Name x p) [] [] pos) sl P m := by
  have eb := cx.b
  subst eb
  obtain ⟨f, hm, hkp, c⟩ := C.ex
  exact evd_callF0 cx hm hkp (c.callP hr rfl h hk) hg hdb

/-! ### built-ins on data -/
variable {i : Int}
theorem reps1 {K : PySem.W.Frag} {G : Hp} {vs : List V} {d : Da} (r : Reps K G vs [d]) : ∃ v, vs = [v] ∧ Rep K G v d := by cases r with | cons a b => cases b; exact ⟨_, rfl, a⟩
theorem reps2 {K : PySem.W.Frag} {G : Hp} {vs : List V} {d e : Da} (r : Reps K G vs [d, e]) : ∃ v w, vs = [v, w] ∧ Rep K G v d ∧ Rep K G w e := by
  cases r with | cons a b => obtain ⟨w, rfl, q⟩ := reps1 b; exact ⟨_, _, rfl, a, q⟩
theorem cd_int (k : P (.int i) m) : CallD M X KE (.type "int") [.int i] P m := .of call_int1 fun G H _ vs ok r po => by
  obtain ⟨v, rfl, a⟩ := reps1 r
  cases a.int_inv
  exact .inl ⟨i, rfl, po _ _ m G H k ok (.int _)⟩
theorem cd_intB {b : Bool} (k : P (.int (if b then 1 else 0)) m) : CallD M X KE (.type "int") [.bl b] P m := .of call_int1 fun G H _ vs ok r po => by
  obtain ⟨v, rfl, a⟩ := reps1 r
  cases a.bl_inv
  exact .inr ⟨b, rfl, po _ _ m G H k ok (.int _)⟩
theorem cd_abs (k : P (.int (if i < 0 then -i else i)) m) : CallD M X KE (.builtin "abs") [.int i] P m := .of call_abs fun G H _ vs ok r po => by
  obtain ⟨v, rfl, a⟩ := reps1 r
  cases a.int_inv
  exact ⟨i, rfl, po _ _ m G H k ok (.int _)⟩
theorem cd_max2 {l : Int} (k : P (.int (if l > i then l else i)) m) (hc : X.calm = true := by with_unfolding_all rfl) : CallD M X KE (.builtin "max") [.int i, .int l] P m := .of (call_max2 hc) fun G H _ vs ok r po => by
  obtain ⟨v, w, rfl, a, b⟩ := reps2 r
  cases a.int_inv; cases b.int_inv
  exact ⟨i, l, rfl, po _ _ m G H k ok (.int _)⟩
theorem cd_min2 {l : Int} (k : P (.int (if l < i then l else i)) m) (hc : X.calm = true := by with_unfolding_all rfl) : CallD M X KE (.builtin "min") [.int i, .int l] P m := .of (call_min2 hc) fun G H _ vs ok r po => by
  obtain ⟨v, w, rfl, a, b⟩ := reps2 r
  cases a.int_inv; cases b.int_inv
  exact ⟨i, l, rfl, po _ _ m G H k ok (.int _)⟩
theorem cd_lenL {ls : List Da} (k : P (.int ls.length) m) : CallD M X KE (.builtin "len") [.lst ls] P m := .of call_len_seq fun G H _ vs ok r po => by
  obtain ⟨v, rfl, a⟩ := reps1 r
  obtain ⟨b, us, rfl, q, t⟩ := a.lst_inv
  exact ⟨b, us, rfl, .inl (sq_l (ok.sub _ _ q)), by rw [t.length]; exact po _ _ m G H k ok (.int _)⟩
theorem cd_lenT {ls : List Da} (k : P (.int ls.length) m) : CallD M X KE (.builtin "len") [.tup ls] P m := .of call_len_seq fun G H _ vs ok r po => by
  obtain ⟨v, rfl, a⟩ := reps1 r
  obtain ⟨b, us, rfl, q, t⟩ := a.tup_inv
  exact ⟨b, us, rfl, .inr (sqT_same ok.sub q), by rw [t.length]; exact po _ _ m G H k ok (.int _)⟩
theorem cd_lenS {z : Str} (h : z.length ≤ sizeLine) (k : P (.int z.length) m) : CallD M X KE (.builtin "len") [.str z] P m := .of call_len_str fun G H _ vs ok r po => by
  obtain ⟨v, rfl, a⟩ := reps1 r
  cases a.str_inv
  exact ⟨z, rfl, h, po _ _ m G H k ok (.int _)⟩
theorem cd_tupL {ls : List Da} (k : P (.tup ls) m) : CallD M X KE (.type "tuple") [.lst ls] P m := .of call_tuple_of fun G H _ vs ok r po => by
  obtain ⟨v, rfl, a⟩ := reps1 r
  obtain ⟨b, us, rfl, q, t⟩ := a.lst_inv
  refine ⟨b, us, rfl, .inl ⟨sq_l (ok.sub _ _ q), fun p hp => ?_⟩⟩
  have al := ok.alloc (o := .tup us) hp
  exact po _ _ m _ _ k al (.tup (sq_t upd_same) (t.mono al.le))
theorem cd_tupT {ls : List Da} (k : P (.tup ls) m) : CallD M X KE (.type "tuple") [.tup ls] P m := .of call_tuple_of fun G H _ vs ok r po => by
  obtain ⟨v, rfl, a⟩ := reps1 r
  obtain ⟨b, us, rfl, q, t⟩ := a.tup_inv
  exact ⟨b, us, rfl, .inr ⟨sqT_same ok.sub q, po _ _ m G H k ok (.tup q t)⟩⟩
theorem cd_lstL {ls : List Da} (k : P (.lst ls) m) : CallD M X KE (.type "list") [.lst ls] P m := .of call_list_of fun G H _ vs ok r po => by
  obtain ⟨v, rfl, a⟩ := reps1 r
  obtain ⟨b, us, rfl, q, t⟩ := a.lst_inv
  refine ⟨b, us, rfl, .inl (sq_l (ok.sub _ _ q)), fun p hp => ?_⟩
  have al := ok.alloc (o := .lst us) hp
  exact po _ _ m _ _ k al (.lst upd_same (t.mono al.le))
theorem cd_lstT {ls : List Da} (k : P (.lst ls) m) : CallD M X KE (.type "list") [.tup ls] P m := .of call_list_of fun G H _ vs ok r po => by
  obtain ⟨v, rfl, a⟩ := reps1 r
  obtain ⟨b, us, rfl, q, t⟩ := a.tup_inv
  refine ⟨b, us, rfl, .inr (sqT_same ok.sub q), fun p hp => ?_⟩
  have al := ok.alloc (o := .lst us) hp
  exact po _ _ m _ _ k al (.lst upd_same (t.mono al.le))
theorem reps_ints {K : PySem.W.Frag} {G : Hp} : ∀ {vs : List V} {ns : List Int}, Reps K G vs (ns.map Da.int) → vs = ns.map V.int
  | _, [], r => by cases r; rfl
  | _, n :: ns, r => by
    cases r with
    | cons a b => rw [a.int_inv, reps_ints b]; rfl
theorem reps_intsI {K : PySem.W.Frag} {G : Hp} : ∀ (ns : List Int), Reps K G (ns.map V.int) (ns.map Da.int)
  | [] => .nil
  | n :: ns => .cons (.int n) (reps_intsI ns)
theorem reps_bls {K : PySem.W.Frag} {G : Hp} : ∀ {vs : List V} {ns : List Bool}, Reps K G vs (ns.map Da.bl) → vs = ns.map V.bl
  | _, [], r => by cases r; rfl
  | _, n :: ns, r => by
    cases r with
    | cons a b => rw [a.bl_inv, reps_bls b]; rfl
theorem reps_strs {K : PySem.W.Frag} {G : Hp} : ∀ {vs : List V} {ns : List Str}, Reps K G vs (ns.map Da.str) → vs = ns.map V.str
  | _, [], r => by cases r; rfl
  | _, n :: ns, r => by
    cases r with
    | cons a b => rw [a.str_inv, reps_strs b]; rfl
theorem reps_strsI {K : PySem.W.Frag} {G : Hp} : ∀ (ns : List Str), Reps K G (ns.map V.str) (ns.map Da.str)
  | [] => .nil
  | n :: ns => .cons (.str n) (reps_strsI ns)
theorem cd_sum {ns : List Int} (k : P (.int ns.sum) m) (hc : X.calm = true := by with_unfolding_all rfl) : CallD M X KE (.builtin "sum") [.lst (ns.map Da.int)] P m := .of (cr_sum hc) fun G H _ vs ok r po => by
  obtain ⟨v, rfl, a⟩ := reps1 r
  obtain ⟨b, us, rfl, q, t⟩ := a.lst_inv
  exact ⟨b, ns, rfl, by rw [← reps_ints t]; exact sq_l (ok.sub _ _ q), po _ _ m G H k ok (.int _)⟩
theorem cd_any {bs : List Bool} (k : P (.bl (bs.any id)) m) (hc : X.calm = true := by with_unfolding_all rfl) : CallD M X KE (.builtin "any") [.lst (bs.map Da.bl)] P m := .of (cr_any hc) fun G H _ vs ok r po => by
  obtain ⟨v, rfl, a⟩ := reps1 r
  obtain ⟨b, us, rfl, q, t⟩ := a.lst_inv
  exact ⟨b, bs, rfl, by rw [← reps_bls t]; exact sq_l (ok.sub _ _ q), po _ _ m G H k ok (.bl _)⟩
theorem cd_all {bs : List Bool} (k : P (.bl (bs.all id)) m) (hc : X.calm = true := by with_unfolding_all rfl) : CallD M X KE (.builtin "all") [.lst (bs.map Da.bl)] P m := .of (cr_all hc) fun G H _ vs ok r po => by
  obtain ⟨v, rfl, a⟩ := reps1 r
  obtain ⟨b, us, rfl, q, t⟩ := a.lst_inv
  exact ⟨b, bs, rfl, by rw [← reps_bls t]; exact sq_l (ok.sub _ _ q), po _ _ m G H k ok (.bl _)⟩
theorem cd_maxL {ns : List Int} (h : 0 < ns.length) (k : ∀ z, z ∈ ns → (∀ y, y ∈ ns → y ≤ z) → P (.int z) m) (hc : X.calm = true := by with_unfolding_all rfl) : CallD M X KE (.builtin "max") [.lst (ns.map Da.int)] P m := .of (cr_max hc) fun G H _ vs ok r po => by
  obtain ⟨v, rfl, a⟩ := reps1 r
  obtain ⟨b, us, rfl, q, t⟩ := a.lst_inv
  exact ⟨b, ns, rfl, by rw [← reps_ints t]; exact sq_l (ok.sub _ _ q), h, fun z h1 h2 => po _ _ m G H (k z h1 h2) ok (.int _)⟩
theorem cd_minL {ns : List Int} (h : 0 < ns.length) (k : ∀ z, z ∈ ns → (∀ y, y ∈ ns → z ≤ y) → P (.int z) m) (hc : X.calm = true := by with_unfolding_all rfl) : CallD M X KE (.builtin "min") [.lst (ns.map Da.int)] P m := .of (cr_min hc) fun G H _ vs ok r po => by
  obtain ⟨v, rfl, a⟩ := reps1 r
  obtain ⟨b, us, rfl, q, t⟩ := a.lst_inv
  exact ⟨b, ns, rfl, by rw [← reps_ints t]; exact sq_l (ok.sub _ _ q), h, fun z h1 h2 => po _ _ m G H (k z h1 h2) ok (.int _)⟩
theorem cd_gcd {l : Int} (k : P (.int ((Nat.gcd i.natAbs l.natAbs : Nat) : Int)) m) : CallD M X KE (.builtin "math.gcd") [.int i, .int l] P m := .of cr_gcd fun G H _ vs ok r po => by
  obtain ⟨v, w, rfl, a, b⟩ := reps2 r
  cases a.int_inv; cases b.int_inv
  exact ⟨i, l, rfl, po _ _ m G H k ok (.int _)⟩
end
end OZ

/-! ### statements -/
namespace OZ
open PySem L2 PySem.Spec PyProof.Rows
structure Kn where
  nx : List Sl → Nat → Prop
  rt : Da → Nat → Prop
  bk : List Sl → Nat → Prop := fun _ _ => False
  ct : List Sl → Nat → Prop := fun _ _ => False
  rn : Da → Nat → Prop := fun _ _ => False
abbrev Ks := List Sl → Kx
structure WisS (M : Mode) (X : Cx) (KE : Ks) (G0 H0 : Hp) (W : WX) : Prop where
  tk : Takes X W
  ex : ∀ C fs d σ sl m' G' H', KE sl C fs m' → Ok M G0 H0 G' H' m' → SOk X.K M H0 G' H' σ sl → XRep X.K G' H' d fs → W (.ref C) d σ H'
theorem WisS.at {M : Mode} {X : Cx} {KE : Ks} {G0 H0 G H : Hp} {W : WX} {m : Nat} {σ : L2.St} {sl : List Sl} (w : WisS M X KE G0 H0 W) (ok : Ok M G0 H0 G H m) (so : SOk X.K M H0 G H σ sl) : Wis M X (KE sl) G H σ W :=
  ⟨w.tk, fun C fs d m' G' H' k o x => w.ex C fs d σ sl m' G' H' k (ok.trans o) (so.step o) x⟩
def NxS (M : Mode) (K : PySem.W.Frag) (G0 H0 : Hp) (P : List Sl → Nat → Prop) (Q : L2.St → Hp → Prop) : Prop := ∀ σ sl m G H, P sl m → Ok M G0 H0 G H m → SOk K M H0 G H σ sl → Q σ H
/-- an object that is the run's own, new since the entry -/
structure New (K : PySem.W.Frag) (M : Mode) (H0 G H : Hp) (ad : Addr) (d : Da) : Prop where
  g : G ad = none
  h0 : H0 ad = none ∨ M.X H0 ad
  nx : ¬ M.X H ad
  r : RepM K G H ad d
theorem fresh0 {M : Mode} {G0 H0 G H : Hp} {m : Nat} {ad : Addr} (ok : Ok M G0 H0 G H m) (h : H ad = none ∨ M.X H ad) : H0 ad = none ∨ M.X H0 ad := by
  cases e : H0 ad with
  | none => exact .inl rfl
  | some u =>
    by_cases x : M.X H0 ad
    · exact .inr x
    · obtain ⟨a, b⟩ := ok.keep ad u e x
      rcases h with h | h
      · rw [h] at a; cases a
      · exact absurd h b
theorem New.back {K : PySem.W.Frag} {M : Mode} {G0 H0 G H G' H' : Hp} {m : Nat} {ad : Addr} {d : Da} (n : New K M H G' H' ad d) (ok : Ok M G0 H0 G H m) : New K M H0 G' H' ad d := ⟨n.g, fresh0 ok n.h0, n.nx, n.r⟩
theorem upd_self' {H : Hp} {a : Addr} {o : HO} (h : H a = some o) : L2.upd H a o = H := by
  funext b
  by_cases q : b = a
  · subst q; rw [upd_same, h]
  · rw [upd_ne q]
def notDct : Da → Bool
  | .dct _ => false
  | _ => true
theorem repM_rep {K : PySem.W.Frag} {G H : Hp} {a : Addr} {u : HO} {d : Da} (hu : H a = some u) (ga : G a = none) (rm : RepM K G H a d) (nd : notDct d = true) : Rep K (L2.upd G a u) (.ref a) d := by
  have same : Same G (L2.upd G a u) := sameUp ga
  cases d with
  | lst ds => obtain ⟨vs, e, r⟩ := rm; rw [hu] at e; cases e; exact .lst upd_same (r.mono same)
  | dct ds => simp [notDct] at nd
  | obj C fs => obtain ⟨dx, vs, e, r⟩ := rm; rw [hu] at e; cases e; exact .obj upd_same (r.mono same)
  | _ => exact rm.elim
/-- what an own object becomes when it is known: a dict is locked -/
theorem RepM.pubI {K : PySem.W.Frag} {X : Cx} {pins : List (Addr × Obj)} {σ : L2.St} {s : Shared} {G H : Hp} {a : Addr} {d : Da} (rm : RepM K G H a d) (ga : G a = none) (I : Inv X pins σ H s) : ∃ u, Inv X pins σ (L2.upd H a u) s ∧ Rep K (L2.upd G a u) (.ref a) d := by
  have same : ∀ u, Same G (L2.upd G a u) := fun u => sameUp ga
  cases d with
  | lst ds => obtain ⟨vs, e, r⟩ := rm; exact ⟨_, (upd_self' e).symm ▸ I, .lst upd_same (r.mono (same _))⟩
  | dct ds =>
    obtain ⟨vs, e, r⟩ := rm
    obtain ⟨od, I2⟩ := I.lock e trivial
    exact ⟨_, I2, .dct upd_same (RepK.mono (same _) r)⟩
  | obj C fs => obtain ⟨dx, vs, e, r⟩ := rm; exact ⟨_, (upd_self' e).symm ▸ I, .obj upd_same (RepF.mono (same _) r)⟩
  | _ => exact rm.elim
theorem Ok.mpub {M : Mode} {G0 H0 G H : Hp} {m : Nat} {p : Addr} {o : HO} (a : Ok M G0 H0 G H m) (hg : G p = none) (nx : ¬ M.X H p) (h0 : H0 p = none ∨ M.X H0 p) : Ok M G0 H0 (L2.upd G p o) (L2.upd H p o) m :=
  (a.mut hg nx h0).pub upd_same hg (fun z => nx ((M.clo m H _ a.inv fun b u x e => by rw [upd_ne (fun q => nx (by rw [← q]; exact x))]; exact e).2 _ z)) h0
theorem New.pubI {X : Cx} {pins : List (Addr × Obj)} {σ : L2.St} {s : Shared} {K : PySem.W.Frag} {M : Mode} {G0 H0 G H : Hp} {m : Nat} {ad : Addr} {d : Da} (n : New K M H0 G H ad d) (ok : Ok M G0 H0 G H m) (I : Inv X pins σ H s) : ∃ G' H', Inv X pins σ H' s ∧ Ok M G0 H0 G' H' m ∧ Rep K G' (.ref ad) d := by
  obtain ⟨u, I2, r⟩ := n.r.pubI n.g I
  exact ⟨_, _, I2, ok.mpub n.g n.nx n.h0, r⟩
structure PostS (M : Mode) (K : PySem.W.Frag) (G0 H0 : Hp) (D : Kn) (E : Ends) : Prop where
  nx : NxS M K G0 H0 D.nx E.nx
  rt : ∀ v d m G H, D.rt d m → Ok M G0 H0 G H m → Rep K G v d → E.rt v H
  bk : NxS M K G0 H0 D.bk E.bk
  ct : NxS M K G0 H0 D.ct E.ct
  rn : ∀ ad d m G H, D.rn d m → Ok M G0 H0 G H m → New K M H0 G H ad d → E.rt (.ref ad) H
theorem PostS.at {M : Mode} {K : PySem.W.Frag} {G0 H0 G H : Hp} {D : Kn} {E : Ends} {m : Nat} (p : PostS M K G0 H0 D E) (ok : Ok M G0 H0 G H m) : Post M K G H D.rt E.rt := fun v d m' G' H' q o r => p.rt v d m' G' H' q (ok.trans o) r
def wpS (X : Cx) (st : Stmt) : TS := fun E σ H => ∀ pins s, Inv X pins σ H s → wpAny (model X.prog X.w) X.A (exec st X.env) (SP X pins E) X.xe s
def wpSs (X : Cx) (st : List Stmt) : TS := fun E σ H => ∀ pins s, Inv X pins σ H s → wpAny (model X.prog X.w) X.A (execs st X.env) (SP X pins E) X.xe s
theorem ps_wp {X : Cx} {e : Stmt} : PS X e (wpS X e) := ⟨fun pins s _ _ _ I h => h pins s I⟩
theorem pss_wp {X : Cx} {e : List Stmt} : PSs X e (wpSs X e) := ⟨fun pins s _ _ _ I h => h pins s I⟩
theorem wpS.of {X : Cx} {e : Stmt} {t : TS} {σ : L2.St} {H : Hp} {E : Ends} (p : PS X e t) (h : t E σ H) : wpS X e E σ H := fun pins s I => p.run pins s σ H E I h
theorem wpSs.of {X : Cx} {e : List Stmt} {t : TS} {σ : L2.St} {H : Hp} {E : Ends} (p : PSs X e t) (h : t E σ H) : wpSs X e E σ H := fun pins s I => p.run pins s σ H E I h
def St1 (M : Mode) (X : Cx) (KE : Ks) (st : Stmt) (sl : List Sl) (D : Kn) (m : Nat) : Prop :=
  ∀ (G0 H0 G H : Hp) (σ : L2.St) (W : WX) (E : Ends), Ok M G0 H0 G H m → SOk X.K M H0 G H σ sl → WisS M X KE G0 H0 W → PostS M X.K G0 H0 D E → wpS X st E σ H
def StD (M : Mode) (X : Cx) (KE : Ks) (sts : List Stmt) (sl : List Sl) (D : Kn) (m : Nat) : Prop :=
  ∀ (G0 H0 G H : Hp) (σ : L2.St) (W : WX) (E : Ends), Ok M G0 H0 G H m → SOk X.K M H0 G H σ sl → WisS M X KE G0 H0 W → PostS M X.K G0 H0 D E → wpSs X sts E σ H
section
variable {M : Mode} {X : Cx} {KE : Ks} {a b c e : Expr} {es : List Expr} {sl : List Sl} {D : Kn} {m : Nat} {pos p : Pos} {x : Str} {st : Stmt} {rest sa sb : List Stmt} {N : List Str} {sc : Scope} {B : Bd}
theorem std_nil (h : D.nx sl m) : StD M X KE [] sl D m := fun G0 H0 G H σ W E ok so _ po => wpSs.of pss_nil (po.nx σ sl m G H h ok so)
theorem std_cons (h : St1 M X KE st sl { D with nx := fun sl' m' => StD M X KE rest sl' D m' } m) : StD M X KE (st :: rest) sl D m := fun G0 H0 G H σ W E ok so wi po =>
  wpSs.of (pss_cons ps_wp pss_wp) (h G0 H0 G H σ W { E with nx := wpSs X rest E } ok so wi
    ⟨fun σ' sl' m' G' H' q ok' so' => q G0 H0 G' H' σ' W E ok' so' wi po, po.rt, po.bk, po.ct, po.rn⟩)
/-- a cut: what stands between -/
theorem std_cut (Mid : List Sl → Nat → Prop) (h : St1 M X KE st sl { D with nx := Mid } m) (k : ∀ sl' m', Mid sl' m' → StD M X KE rest sl' D m') : StD M X KE (st :: rest) sl D m := fun G0 H0 G H σ W E ok so wi po =>
  wpSs.of (pss_cons ps_wp pss_wp) (h G0 H0 G H σ W { E with nx := wpSs X rest E } ok so wi
    ⟨fun σ' sl' m' G' H' q ok' so' => k sl' m' q G0 H0 G' H' σ' W E ok' so' wi po, po.rt, po.bk, po.ct, po.rn⟩)
theorem st1_set (cx : Ctx X N sc B) (h : EvD M X (KE sl) e sl (fun d m1 => ∃ i sl', EnvSet N sl x i (.v d) sl' ∧ D.nx sl' m1) m) (hx : Loc sc x := by with_unfolding_all first | exact Or.inl rfl | exact Or.inr rfl)
    (hs : swapsWith e (some (.Name x p)) pos.line X.env = pure false := by with_unfolding_all rfl) (hf : X.fn x = true ∨ X.env.scope.names.lookup x = some .local := by with_unfolding_all first | exact Or.inl rfl | exact Or.inr rfl) : St1 M X KE (.Assign [.Name x p] e pos) sl D m := by
  intro G0 H0 G H σ W E ok so wi po pins s I
  refine wpAny_Assign_Name (h.run ok so (wi.at ok so) I fun u s1 v d m1 G1 H1 p1 k1 o1 so1 wi1 r1 I1 rv1 => ?_) hs
  obtain ⟨i, sl', es, q⟩ := p1
  have hi : X.N[i]? = some x := by rw [cx.n]; exact es.name
  refine store_ok I1 cx.nd hi (cx.loc hx) rv1 (fun s2 I2 => ⟨_, H1, I2, ?_⟩) hf
  refine po.nx _ sl' m1 G1 H1 q k1 ?_
  rw [es.set]
  exact so1.setV i r1
theorem st1_ret (h : EvD M X (KE sl) e sl D.rt m) : St1 M X KE (.Return (some e) pos) sl D m := fun G0 H0 G H σ W E ok so wi po =>
  wpS.of (ps_ret pe_wp) (h G0 H0 G H σ W E.rt ok so (wi.at ok so) (po.at ok))
theorem st1_retN (h : D.rt .non m) : St1 M X KE (.Return none pos) sl D m := fun G0 H0 G H σ W E ok so wi po =>
  wpS.of ps_retN (po.rt _ _ m G H h ok .non)
theorem st1_if (h : EvT M X (KE sl) c sl (fun k m1 => if k = true then StD M X KE sa sl D m1 else StD M X KE sb sl D m1) m) : St1 M X KE (.If c sa sb pos) sl D m := fun G0 H0 G H σ W E ok so wi po =>
  wpS.of (ps_if pt_wp pss_wp pss_wp) (h G0 H0 G H σ W _ ok so (wi.at ok so) fun k m' G' H' q o => by
    cases k with
    | true => exact q G0 H0 G' H' σ W E (ok.trans o) (so.step o) wi po
    | false => exact q G0 H0 G' H' σ W E (ok.trans o) (so.step o) wi po)
theorem st1_expr (h : EvD M X (KE sl) e sl (fun _ m1 => D.nx sl m1) m) (hs : swapsWith e none pos.line X.env = pure false := by with_unfolding_all rfl) : St1 M X KE (.Expr e pos) sl D m := fun G0 H0 G H σ W E ok so wi po =>
  wpS.of (ps_expr pe_wp hs) (h G0 H0 G H σ W _ ok so (wi.at ok so) fun v d m' G' H' q o r => po.nx σ sl m' G' H' q (ok.trans o) (so.step o))
/-- return of an object of the run's own -/
theorem st1_retM {i : Nat} {d : Da} (cx : Ctx X N sc B) (hx : EnvAt N sl x i (.m d)) (h : D.rn d m) (hv : Vis sc x := by with_unfolding_all first | exact Or.inl rfl | exact Or.inr (Or.inl rfl) | exact Or.inr (Or.inr rfl)) (hd : (x == ("__debug__" : Str)) = false := by with_unfolding_all decide) (hcd : (x == ("__classdict__" : Str)) = false := by with_unfolding_all decide) : St1 M X KE (.Return (some (.Name x p)) pos) sl D m := by
  intro G0 H0 G H σ W E ok so wi po
  obtain ⟨o, e1, ad, rfl, zz, g, h0, n, r⟩ := paired_get so.rel hx.slot
  exact wpS.of (ps_ret (pe_var (by rw [cx.n]; exact hx.name) (cx.vis hv) hd hcd)) ⟨_, e1, po.rn ad d m G H h ok ⟨g, h0, n, r⟩⟩
theorem st1_pass (h : D.nx sl m) : St1 M X KE (.Pass pos) sl D m := fun G0 H0 G H σ W E ok so wi po => wpS.of ps_pass (po.nx σ sl m G H h ok so)
theorem st1_break (h : D.bk sl m) : St1 M X KE (.Break pos) sl D m := fun G0 H0 G H σ W E ok so wi po => wpS.of ps_break (po.bk σ sl m G H h ok so)
theorem st1_cont (h : D.ct sl m) : St1 M X KE (.Continue pos) sl D m := fun G0 H0 G H σ W E ok so wi po => wpS.of ps_continue (po.ct σ sl m G H h ok so)
theorem std_imp {D' : Kn} (h : StD M X KE rest sl D m) (h1 : ∀ s n, D.nx s n → D'.nx s n) (h2 : ∀ s n, D.rt s n → D'.rt s n) (h3 : ∀ s n, D.bk s n → D'.bk s n) (h4 : ∀ s n, D.ct s n → D'.ct s n) (h5 : ∀ s n, D.rn s n → D'.rn s n) : StD M X KE rest sl D' m := fun G0 H0 G H σ W E ok so wi po =>
  h G0 H0 G H σ W E ok so wi ⟨fun σ' sl' m' G' H' q => po.nx σ' sl' m' G' H' (h1 _ _ q), fun v d m' G' H' q => po.rt v d m' G' H' (h2 _ _ q), fun σ' sl' m' G' H' q => po.bk σ' sl' m' G' H' (h3 _ _ q), fun σ' sl' m' G' H' q => po.ct σ' sl' m' G' H' (h4 _ _ q), fun a d m' G' H' q => po.rn a d m' G' H' (h5 _ _ q)⟩
/-- an object of the run's own is known from now on -/
theorem sok_pub' {K : PySem.W.Frag} {M : Mode} {H0 G H : Hp} {σ : L2.St} {sl : List Sl} {i : Nat} {q : Option Addr} {d : Da} (so : SOk K M H0 G H σ sl) (hi : sl[i]? = some (.mm q d)) :
    ∃ a, σ[i]? = some (some (.ref a)) ∧ G a = none ∧ ¬ M.X H a ∧ (H0 a = none ∨ M.X H0 a) ∧ RepM K G H a d ∧
      ∀ u, Rep K (L2.upd G a u) (.ref a) d → (∀ b, M.X (L2.upd H a u) b → M.X H b) → SOk K M H0 (L2.upd G a u) (L2.upd H a u) σ (sl.set i (.v d)) := by
  obtain ⟨o, e1, r⟩ := paired_get so.rel hi
  obtain ⟨a, rfl, zz, ga, h0, nx, rm⟩ := r
  refine ⟨a, e1, ga, nx, h0, rm, fun u rep xk => ?_⟩
  have same : Same G (L2.upd G a u) := sameUp ga
  have hσ : σ.set i (some (.ref a)) = σ := by
    apply List.ext_getElem?
    intro j
    by_cases q : i = j
    · subst q
      have : i < σ.length := (List.getElem?_eq_some_iff.mp e1).1
      rw [List.getElem?_set_self this, e1]
    · rw [List.getElem?_set_ne q]
  have base : SOk K M H0 (L2.upd G a u) (L2.upd H a u) σ (sl.set i .un) := by
    have dr := so.drop i
    refine ⟨?_, dr.dis⟩
    have key : ∀ (j : Nat) s, (sl.set i .un)[j]? = some s → ∀ o, σ[j]? = some o → RelSl K M H0 G H o s → RelSl K M H0 (L2.upd G a u) (L2.upd H a u) o s := by
      intro j s hj o ho r
      cases s with
      | un => trivial
      | v d' => obtain ⟨v, e, r⟩ := r; exact ⟨v, e, r.mono same⟩
      | mm q' d' =>
        obtain ⟨a', e, z', g', h0', n', r'⟩ := r
        have nij : i ≠ j := fun q => by
          subst q
          have l : i < sl.length := (List.getElem?_eq_some_iff.mp hi).1
          rw [List.getElem?_set_self l] at hj; cases hj
        have ne : a' ≠ a := fun q => by
          subst q
          rw [List.getElem?_set_ne nij] at hj
          rw [e] at ho
          exact nij (so.dis i j a' ⟨q, d, hi⟩ ⟨q', d', hj⟩ e1 ho)
        exact ⟨a', e, z', by rw [upd_ne ne]; exact g', h0', fun z => n' (xk _ z), r'.step same (upd_ne ne)⟩
    have go : ∀ (σ : L2.St) (sl : List Sl), Paired (RelSl K M H0 G H) σ sl → (∀ (j : Nat) s, sl[j]? = some s → ∀ o, σ[j]? = some o → RelSl K M H0 G H o s → RelSl K M H0 (L2.upd G a u) (L2.upd H a u) o s) → Paired (RelSl K M H0 (L2.upd G a u) (L2.upd H a u)) σ sl := by
      intro σ sl r
      induction r with
      | nil => intro _; exact .nil
      | cons x y ih => intro f; exact .cons (f 0 _ rfl _ rfl x) (ih fun j s hs o ho => f (j + 1) s (by simpa using hs) o (by simpa using ho))
    exact go _ _ dr.rel key
  have := base.setV i rep
  rw [hσ, List.set_set] at this
  exact this
theorem Ok.xk {M : Mode} {G0 H0 G H : Hp} {m : Nat} {a : Addr} {o : HO} (ok : Ok M G0 H0 G H m) (n : ¬ M.X H a) : ∀ b, M.X (L2.upd H a o) b → M.X H b := (M.clo m H _ ok.inv fun b u x e => by rw [upd_ne (fun q => n (by rw [← q]; exact x))]; exact e).2
theorem std_pub {i : Nat} {q : Option Addr} {d : Da} (hi : sl[i]? = some (.mm q d)) (h : StD M X KE rest (sl.set i (.v d)) D m) : StD M X KE rest sl D m := by
  intro G0 H0 G H σ W E ok so wi po pins s I
  obtain ⟨a, e1, ga, nx, h0, rm, f⟩ := sok_pub' so hi
  obtain ⟨u, I2, rep⟩ := rm.pubI ga I
  exact h G0 H0 _ _ σ W E (ok.mpub ga nx h0) (f u rep (ok.xk nx)) wi po pins s I2
/-- forget a slot -/
theorem std_drop (i : Nat) (h : StD M X KE rest (sl.set i .un) D m) : StD M X KE rest sl D m := fun G0 H0 G H σ W E ok so wi po => h G0 H0 G H σ W E ok (so.drop i) wi po
end
/-! ### a def of the text -/
def startD (N : List Str) (ds : List Da) : List Sl := ds.map Sl.v ++ List.replicate (N.length - ds.length) .un
theorem sok_start {K : PySem.W.Frag} {M : Mode} {G H : Hp} {N : List Str} {vs : List V} {ds : List Da} (r : Reps K G vs ds) : SOk K M H G H (L2.start N vs) (startD N ds) := by
  have e : ∀ n : Nat, Paired (RelSl K M H G H) (List.replicate n none) (List.replicate n .un) := fun n => by
    induction n with
    | zero => exact .nil
    | succ n ih => rw [List.replicate_succ, List.replicate_succ]; exact .cons trivial ih
  have f : ∀ {vs : List V} {ds : List Da} {xs : L2.St} {ys : List Sl}, Reps K G vs ds → Paired (RelSl K M H G H) xs ys → Paired (RelSl K M H G H) (vs.map some ++ xs) (ds.map Sl.v ++ ys) := by
    intro vs ds xs ys r q
    induction vs generalizing ds with
    | nil => cases r; exact q
    | cons v vs ih => cases r with | cons a b => exact .cons ⟨v, rfl, a⟩ (ih b)
  refine ⟨by unfold L2.start startD; rw [← r.length]; exact f r (e _), fun i j a ⟨q, d, hd⟩ => ?_⟩
  have hm : Sl.mm q d ∈ startD N ds := List.mem_of_getElem? hd
  unfold startD at hm
  rcases List.mem_append.mp hm with h | h
  · obtain ⟨_, _, h⟩ := List.mem_map.mp h; cases h
  · cases (List.mem_replicate.mp h).2
section
variable {B : Bd} {M : Mode} {x qual : Str} {st : Stmt} {f : Addr} {fd : FuncData} {N ps : List Str} {k n : Nat} {F : FD}
theorem fnG_ok (Fn : Fun B.K x qual st f fd) (S : FnScope N ps (defScope st)) (hn : n = ps.length) (hb : Binds B.K fd ps [])
    (h : ∀ (X : Cx) (ds : List Da) (KR : Da → Nat → Prop) (KE : Kx) (m : Nat), (∃ cdv A outer s H E, X = (cxOf CX0 B.P B.w B.K B.mg B.base N qual (defScope st) f cdv A outer s H E).nox) → Ctx X N (defScope st) B → Room k X.A → ds.length = n → F ds KR KE m →
      StD M X (fun _ => K0) (defBody st) (startD N ds) { nx := fun _ m' => KR .non m', rt := KR } m) : FnG M B (k + 1) f n F := by
  refine ⟨CX0, fd, ps, Fn.ok S (fun vs H Q E q => q.1.trans hn) (fun cdv A outer s H vs Q E hr q => ?_), hb, .inl rfl, hn⟩
  obtain ⟨hl, G, m, ds, KR, KE, ok, r, hF, po, _⟩ := q
  refine ⟨_, pss_wp, ?_⟩
  refine h (cxOf CX0 B.P B.w B.K B.mg B.base N qual (defScope st) f cdv A outer s H E).nox ds KR KE m ⟨cdv, A, outer, s, H, E, rfl⟩ ⟨rfl, rfl, S.nd, rfl⟩ hr (r.length.symm.trans hl) hF G H G H (L2.start N vs) (fun _ _ _ _ => False) _ ok (sok_start r) ⟨takes0, fun _ _ _ _ _ _ _ _ z => z.elim⟩ ⟨?_, ?_, ?_, ?_, ?_⟩
  · exact fun σ sl m' G' H' q o _ => po .non .non m' G' H' q o .non
  · exact fun v d m' G' H' q o rr => po v d m' G' H' q o rr
  · exact fun _ _ _ _ _ z => z.elim
  · exact fun _ _ _ _ _ z => z.elim
  · exact fun _ _ _ _ _ z => z.elim
/-- one that may raise -/
theorem fnG_okX (Fn : Fun B.K x qual st f fd) (S : FnScope N ps (defScope st)) (hn : n = ps.length) (hb : Binds B.K fd ps [])
    (h : ∀ (X : Cx) (ds : List Da) (KR : Da → Nat → Prop) (KE : Kx) (m : Nat), (∃ cdv A outer s H E, X = cxOf (L2.CX B.P B.w) B.P B.w B.K B.mg B.base N qual (defScope st) f cdv A outer s H E) → Ctx X N (defScope st) B → Room k X.A → ds.length = n → F ds KR KE m →
      StD M X (fun _ => KE) (defBody st) (startD N ds) { nx := fun _ m' => KR .non m', rt := KR } m) : FnG M B (k + 1) f n F := by
  refine ⟨L2.CX B.P B.w, fd, ps, Fn.okX S (fun vs H Q E q => q.1.trans hn) (fun cdv A outer s H vs Q E hr q => ?_), hb, .inr rfl, hn⟩
  obtain ⟨hl, G, m, ds, KR, KE, ok, r, hF, po, px⟩ := q
  refine ⟨_, pss_wp, ?_⟩
  refine h (cxOf (L2.CX B.P B.w) B.P B.w B.K B.mg B.base N qual (defScope st) f cdv A outer s H E) ds KR KE m ⟨cdv, A, outer, s, H, E, rfl⟩ ⟨rfl, rfl, S.nd, rfl⟩ hr (r.length.symm.trans hl) hF G H G H (L2.start N vs) (fun cls d _ H => E cls d H) _ ok (sok_start r) ⟨takes_of rfl rfl rfl rfl, fun C fs d σ sl m' G' H' q o _ x => px C fs d m' G' H' q o x⟩ ⟨?_, ?_, ?_, ?_, ?_⟩
  · exact fun σ sl m' G' H' q o _ => po .non .non m' G' H' q o .non
  · exact fun v d m' G' H' q o rr => po v d m' G' H' q o rr
  · exact fun _ _ _ _ _ z => z.elim
  · exact fun _ _ _ _ _ z => z.elim
  · exact fun _ _ _ _ _ z => z.elim
end
end OZ

/-! ### truth, ifs, chains, slices -/
namespace OZ
open PySem L2 PySem.Spec PyProof.Rows
def Tru (P : Bool → Nat → Prop) : Da → Nat → Prop
  | .non, m => P false m
  | .bl b, m => P b m
  | .int i, m => P (decide (i ≠ 0)) m
  | .str y, m => y.length ≤ sizeLine ∧ P (decide (y.length ≠ 0)) m
  | .lst ds, m => P (!ds.isEmpty) m
  | .tup ds, m => P (!ds.isEmpty) m
  | _, _ => False
section
variable {M : Mode} {X : Cx} {KE : Kx} {a b c e : Expr} {es : List Expr} {sl : List Sl} {P : Da → Nat → Prop} {PT' : Bool → Nat → Prop} {m : Nat} {pos : Pos}
theorem tru_da {z : Da} (h : Tru PT' z m) : ∃ k, DaTru z k ∧ PT' k m := by
  cases z with
  | str y => exact ⟨_, ⟨h.1, rfl⟩, h.2⟩
  | ty _ => exact h.elim
  | ref _ => exact h.elim
  | dct _ => exact h.elim
  | obj _ _ => exact h.elim
  | exc _ _ _ => exact h.elim
  | _ => exact ⟨_, rfl, h⟩
theorem evt_tru (h : EvD M X KE e sl (Tru PT') m) (he : ∀ whole, isTrue e X.env whole = (do let v ← whole; standAt e.pos; holding [v] (truthy v)) := by with_unfolding_all (intro _; rfl)) : EvT M X KE e sl PT' m := evt_truth (evd_imp h fun _ _ q => tru_da q) he
theorem evd_notV (h : EvD M X KE a sl (Tru fun k m1 => P (.bl (!k)) m1) m) : EvD M X KE (.UnaryOp .Not a pos) sl P m := evd_notT (evd_imp h fun _ _ q => tru_da q)
/-- ints in a chain -/
theorem evt_chain {op op' : CmpOp} {g g' : Int → Int → Bool} (ho : OpR X (compareOp op) (rI0 fun i j => .bl (g i j))) (ho' : OpR X (compareOp op') (rI0 fun i j => .bl (g' i j)))
    (h : EvD M X KE a sl (fun x m1 => ∃ i, x = .int i ∧ EvD M X KE b sl (fun y m2 => ∃ j, y = .int j ∧ if g i j = true then EvD M X KE c sl (fun z m3 => ∃ l, z = .int l ∧ PT' (g' j l) m3) m2 else PT' false m2) m1) m)
    (hm : lastMarks [op, op'] [b, c] = false := by with_unfolding_all rfl) : EvT M X KE (.Compare a [op, op'] [b, c] pos) sl PT' m := fun G0 H0 G H σ W Q ok so wi po =>
  wpT.of (pt_chain ho ho' pe_wp pe_wp pe_wp hm) (h G0 H0 G H σ W _ ok so wi fun v d m1 G1 H1 p1 o1 r1 => by
    obtain ⟨i, rfl, p1⟩ := p1
    refine p1 G0 H0 G1 H1 σ W _ (ok.trans o1) (so.step o1) (wi.step o1) fun v2 d2 m2 G2 H2 p2 o2 r2 => ?_
    obtain ⟨j, rfl, p2⟩ := p2
    refine ⟨i, j, r1.int_inv, r2.int_inv, g i j, rfl, ?_⟩
    by_cases k : g i j = true
    · rw [if_pos k] at p2 ⊢
      refine p2 G0 H0 G2 H2 σ W _ ((ok.trans o1).trans o2) ((so.step o1).step o2) ((wi.step o1).step o2) fun v3 d3 m3 G3 H3 p3 o3 r3 => ?_
      obtain ⟨l, rfl, p3⟩ := p3
      exact ⟨j, l, r2.int_inv, r3.int_inv, _, rfl, po _ m3 G3 H3 p3 ((o1.trans o2).trans o3)⟩
    · rw [if_neg k] at p2 ⊢
      exact ⟨false, rfl, po _ m2 G2 H2 p2 (o1.trans o2)⟩)
end
section
variable {M : Mode} {X : Cx} {KE : Kx} {P : Da → Nat → Prop} {m : Nat} {i : Int} {ds : List Da}
theorem atI_pos {α : Type} {xs : List α} {i : Int} {v : α} (h0 : 0 ≤ i) (h : xs[i.toNat]? = some v) : atI xs i = some v := by
  have := atI_nat h
  rwa [Int.toNat_of_nonneg h0] at this
/-- an item at an open place -/
theorem ixd_lstA (h0 : 0 ≤ i) (h1 : i < (ds.length : Int)) (k : ∀ d, ds[i.toNat]? = some d → P d m) : IxD M X KE (.lst ds) (.int i) P m := by
  have h : i.toNat < ds.length := by omega
  exact ixd_lst (atI_pos h0 (List.getElem?_eq_getElem h)) (k _ (List.getElem?_eq_getElem h))
theorem ixd_tupA (h0 : 0 ≤ i) (h1 : i < (ds.length : Int)) (k : ∀ d, ds[i.toNat]? = some d → P d m) : IxD M X KE (.tup ds) (.int i) P m := by
  have h : i.toNat < ds.length := by omega
  exact ixd_tup (atI_pos h0 (List.getElem?_eq_getElem h)) (k _ (List.getElem?_eq_getElem h))
theorem ixd_lstM {Pr : Da → Prop} (h0 : 0 ≤ i) (h1 : i < (ds.length : Int)) (hp : ∀ d ∈ ds, Pr d) (k : ∀ d, Pr d → P d m) : IxD M X KE (.lst ds) (.int i) P m :=
  ixd_lstA h0 h1 fun d e => k d (hp d (List.mem_of_getElem? e))
end
theorem zif {p A B : Prop} [Decidable p] (h1 : p → A) (h2 : ¬p → B) : if decide p = true then A else B := by
  by_cases h : p
  · rw [decide_eq_true h]; exact h1 h
  · rw [decide_eq_false h]; exact h2 h
theorem zifn {p A B : Prop} [Decidable p] (h1 : ¬p → A) (h2 : p → B) : if (!decide p) = true then A else B := by
  by_cases h : p
  · rw [decide_eq_true h]; exact h2 h
  · rw [decide_eq_false h]; exact h1 h
theorem zifT {p A B : Prop} [Decidable p] (h : p) (h1 : A) : if decide p = true then A else B := by rw [decide_eq_true h]; exact h1
theorem zifF {p A B : Prop} [Decidable p] (h : ¬p) (h1 : B) : if decide p = true then A else B := by rw [decide_eq_false h]; exact h1
theorem zifnT {p A B : Prop} [Decidable p] (h : p) (h1 : B) : if (!decide p) = true then A else B := by rw [decide_eq_true h]; exact h1
theorem zifnF {p A B : Prop} [Decidable p] (h : ¬p) (h1 : A) : if (!decide p) = true then A else B := by rw [decide_eq_false h]; exact h1
theorem zifb {b : Bool} {A B : Prop} (h1 : b = true → A) (h2 : b = false → B) : if b = true then A else B := by cases b; exact h2 rfl; exact h1 rfl
theorem zife {b b' : Bool} {A B : Prop} (e : b = b') (h : if b' = true then A else B) : if b = true then A else B := by rw [e]; exact h
theorem zt {A B : Prop} (h : A) : if true = true then A else B := h
theorem zf {A B : Prop} (h : B) : if false = true then A else B := h
theorem zntt {A B : Prop} (h : B) : if (!true) = true then A else B := h
theorem znff {A B : Prop} (h : A) : if (!false) = true then A else B := h
/-- a product whose one factor is small; a divisor; a power -/
theorem cmul_l {i j : Int} (h0 : -18446744073709551616 < i) (h1 : i < 18446744073709551616) : CMul i j := .inl ⟨h0, h1⟩
theorem cmul_r {i j : Int} (h0 : -18446744073709551616 < j) (h1 : j < 18446744073709551616) : CMul i j := .inr ⟨h0, h1⟩
theorem cdiv_s {i j : Int} (h0 : 0 < j) (h1 : j < 18446744073709551616) : CDivW i j := wide_div (b := 64) h0 (by omega) (by decide) (by decide)
theorem cpow_s {i j : Int} (h0 : 0 ≤ j) (h1 : j ≤ 1000000) (h2 : -18446744073709551616 < i) (h3 : i < 18446744073709551616) : CPow i j := ⟨h0, h1, by omega⟩
/-- the built-in names -/
structure Bn (B : Bd) : Prop where
  len : B.mg "len" = none
  int : B.mg "int" = none
  abs : B.mg "abs" = none
  max : B.mg "max" = none
  min : B.mg "min" = none
  sum : B.mg "sum" = none
  any : B.mg "any" = none
  all : B.mg "all" = none
  tuple : B.mg "tuple" = none
  list : B.mg "list" = none
  dict : B.mg "dict" = none
  set : B.mg "set" = none
  str : B.mg "str" = none
  bool : B.mg "bool" = none
  range : B.mg "range" = none
  enumerate : B.mg "enumerate" = none
  zip : B.mg "zip" = none
  sorted : B.mg "sorted" = none
  isinstance : B.mg "isinstance" = none
  divmod : B.mg "divmod" = none
end OZ

/-! ### targets, walks, loops, comprehensions -/
namespace OZ
open PySem L2 PySem.Spec PyProof.Rows
/-- what a store to a target makes of the slots; the slots that it touches -/
inductive Tg (X : Cx) (N : List Str) (sc : Scope) : Expr → Da → List Sl → List Sl → List Nat → Prop
  | name {x : Str} {p : Pos} {d : Da} {sl sl' : List Sl} {i : Nat} : EnvSet N sl x i (.v d) sl' → Loc sc x → (X.fn x = true ∨ X.env.scope.names.lookup x = some .local) → Tg X N sc (.Name x p) d sl sl' [i]
  | two {e f : Expr} {k : Nat} {p : Pos} {d1 d2 : Da} {sl sl1 sl2 : List Sl} {i1 i2 : List Nat} : Tg X N sc e d1 sl sl1 i1 → Tg X N sc f d2 sl1 sl2 i2 → Tg X N sc (.Tuple [e, f] k p) (.tup [d1, d2]) sl sl2 (i1 ++ i2)
  | three {e f g : Expr} {k : Nat} {p : Pos} {d1 d2 d3 : Da} {sl sl1 sl2 sl3 : List Sl} {i1 i2 i3 : List Nat} : Tg X N sc e d1 sl sl1 i1 → Tg X N sc f d2 sl1 sl2 i2 → Tg X N sc g d3 sl2 sl3 i3 → Tg X N sc (.Tuple [e, f, g] k p) (.tup [d1, d2, d3]) sl sl3 (i1 ++ (i2 ++ i3))
theorem Tg.plain {X : Cx} {N : List Str} {sc : Scope} {tg : Expr} {d : Da} {sl sl' : List Sl} {is : List Nat} (h : Tg X N sc tg d sl sl' is) (es : List Expr) (env : Env) : assignEach (tg :: es) env = (false, assign tg env) :: assignEach es env := by cases h <;> rfl
theorem wipe_set {vs : List Nat} {i : Nat} {o : Option V} (h : i ∈ vs) (σ : L2.St) : wipe (σ.set i o) vs = wipe σ vs := by
  induction vs with
  | nil => cases h
  | cons v vs ih =>
    unfold wipe
    by_cases q : v = i
    · subst q
      by_cases r : v ∈ vs
      · rw [ih r]
      · have : ∀ (σ : L2.St) (ws : List Nat), v ∉ ws → wipe (σ.set v o) ws = (wipe σ ws).set v o := by
          intro σ ws
          induction ws with
          | nil => intro _; rfl
          | cons w ws ih2 =>
            intro hn
            unfold wipe
            rw [ih2 (fun z => hn (List.mem_cons_of_mem _ z)), List.set_comm _ _ (fun z => hn (by rw [z]; exact List.mem_cons_self ..))]
        rw [this σ vs r, List.set_set]
    · rw [ih (by cases h with | head => exact absurd rfl q | tail _ h => exact h)]
section
variable {M : Mode} {X : Cx} {N : List Str} {sc : Scope} {B : Bd}
/-- a store: the reading by the data -/
def gTg (X : Cx) (tg : Expr) : TG := fun v σ H Q => ∀ pins s u, Inv X pins σ H s → RelV v u → wpAny (model X.prog X.w) X.A (assign tg X.env u) (fun _ s' => ∃ σ' H', Inv X pins σ' H' s' ∧ Q σ' H') X.xe s
theorem pg_wp {tg : Expr} : PG X tg (gTg X tg) := ⟨fun pins s _ _ _ _ _ I r h => h pins s _ I r⟩
theorem gTg.of {tg : Expr} {g : TG} {v : V} {σ : L2.St} {H : Hp} {Q : L2.St → Hp → Prop} (p : PG X tg g) (h : g v σ H Q) : gTg X tg v σ H Q := fun pins s u I r => p.run pins s σ H v u Q I r h
theorem Tg.run (cx : Ctx X N sc B) (hc : X.calm = true) : ∀ {tg : Expr} {d : Da} {sl sl' : List Sl} {is : List Nat}, Tg X N sc tg d sl sl' is → ∀ {G0 H0 G H : Hp} {m : Nat} {σ : L2.St} {v : V} {Q : L2.St → Hp → Prop}, Ok M G0 H0 G H m → SOk X.K M H0 G H σ sl → Rep X.K G v d →
    (∀ σ', SOk X.K M H0 G H σ' sl' → (∀ vs, (∀ i ∈ is, i ∈ vs) → wipe σ' vs = wipe σ vs) → Q σ' H) → gTg X tg v σ H Q
  | _, _, _, _, _, .name es hx hf, _, _, _, _, _, σ, v, Q, ok, so, r, k => by
    refine gTg.of (pg_name cx.nd (by rw [cx.n]; exact es.name) (cx.loc hx) hf) (k _ ?_ fun vs h => wipe_set (h _ (List.mem_singleton.mpr rfl)) σ)
    rw [es.set]
    exact so.setV _ r
  | _, _, _, _, _, .two t1 t2, _, _, _, _, _, σ, v, Q, ok, so, r, k => by
    obtain ⟨a, us, rfl, q, t⟩ := r.tup_inv
    obtain ⟨v1, v2, rfl, r1, r2⟩ := reps2 t
    refine gTg.of (pg_tup hc (pgs_cons pg_wp (pgs_cons pg_wp pgs_nil (by rw [t2.plain]; rfl)) (by rw [t1.plain]; rfl)) (n := 2) (by rw [t1.plain, t2.plain]; rfl) (by rw [t1.plain, t2.plain]; rfl)) ⟨a, _, rfl, sqT_same ok.sub q, rfl, v1, [v2], rfl, ?_⟩
    refine t1.run cx hc ok so r1 fun σ1 so1 w1 => ⟨v2, [], rfl, ?_⟩
    exact t2.run cx hc ok so1 r2 fun σ2 so2 w2 => ⟨rfl, k σ2 so2 fun vs h => (w2 vs fun i hi => h i (List.mem_append_right _ hi)).trans (w1 vs fun i hi => h i (List.mem_append_left _ hi))⟩
  | _, _, _, _, _, .three t1 t2 t3, _, _, _, _, _, σ, v, Q, ok, so, r, k => by
    obtain ⟨a, us, rfl, q, t⟩ := r.tup_inv
    cases t with
    | cons r1 t =>
      obtain ⟨v2, v3, rfl, r2, r3⟩ := reps2 t
      refine gTg.of (pg_tup hc (pgs_cons pg_wp (pgs_cons pg_wp (pgs_cons pg_wp pgs_nil (by rw [t3.plain]; rfl)) (by rw [t2.plain]; rfl)) (by rw [t1.plain]; rfl)) (n := 3) (by rw [t1.plain, t2.plain, t3.plain]; rfl) (by rw [t1.plain, t2.plain, t3.plain]; rfl)) ⟨a, _, rfl, sqT_same ok.sub q, rfl, _, [v2, v3], rfl, ?_⟩
      refine t1.run cx hc ok so r1 fun σ1 so1 w1 => ⟨v2, [v3], rfl, ?_⟩
      refine t2.run cx hc ok so1 r2 fun σ2 so2 w2 => ⟨v3, [], rfl, ?_⟩
      exact t3.run cx hc ok so2 r3 fun σ3 so3 w3 => ⟨rfl, k σ3 so3 fun vs h => ((w3 vs fun i hi => h i (List.mem_append_right _ (List.mem_append_right _ hi))).trans (w2 vs fun i hi => h i (List.mem_append_right _ (List.mem_append_left _ hi)))).trans (w1 vs fun i hi => h i (List.mem_append_left _ hi))⟩
end
/-- what a for walks, as data -/
def WalkD (M : Mode) (K : PySem.W.Frag) (J : It) (ds : List Da) (G1 : Hp) : Prop := ∃ (Gd : Hp → Prop) (Y : Nat → Hp → V → Hp → Prop), Walk J ds.length Gd Y ∧ (∀ G H m, Same G1 G → Ok M G H G H m → Gd H) ∧
  ∀ i H x H' G m, i < ds.length → Y i H x H' → Same G1 G → Ok M G H G H m → ∃ G' d, Ok M G H G' H' m ∧ ds[i]? = some d ∧ Rep K G' x d
def wpI (X : Cx) (tg iter : Expr) : TI := fun σ H R => ∀ pins s, Inv X pins σ H s → wpAny (model X.prog X.w) X.A (eval iter X.env) (fun v s1 => wpAny (model X.prog X.w) X.A (pyIter v) (PIE X pins σ tg R) X.xe s1) X.xe s
theorem pi_wp {X : Cx} {tg iter : Expr} : PI X tg iter (wpI X tg iter) := ⟨fun pins s _ _ _ I h => h pins s I⟩
theorem wpI.of {X : Cx} {tg iter : Expr} {wi : TI} {σ : L2.St} {H : Hp} {R : It → Hp → Prop} (p : PI X tg iter wi) (h : wi σ H R) : wpI X tg iter σ H R := fun pins s I => p.run pins s σ H R I h
def IterD (M : Mode) (X : Cx) (KE : Kx) (tg iter : Expr) (sl : List Sl) (KI : List Da → Nat → Prop) (m : Nat) : Prop :=
  ∀ (G0 H0 G H : Hp) (σ : L2.St) (W : WX) (R : It → Hp → Prop), Ok M G0 H0 G H m → SOk X.K M H0 G H σ sl → Wis M X KE G H σ W →
    (∀ J ds m' G' H', KI ds m' → Ok M G H G' H' m' → WalkD M X.K J ds G' → R J H') → wpI X tg iter σ H R
section
variable {M : Mode} {X : Cx} {KE : Kx} {tg e : Expr} {es : List Expr} {sl : List Sl} {KI : List Da → Nat → Prop} {m : Nat} {pos p : Pos} {N : List Str} {sc : Scope} {B : Bd}
theorem walkd_list {K : PySem.W.Frag} {G1 : Hp} {a : Addr} {vs : List V} {ds : List Da} (q : G1 a = some (.lst vs)) (r : Reps K G1 vs ds) : WalkD M K (Itl K a) ds G1 := by
  refine ⟨_, _, by rw [← r.length]; exact walk_list (K := K) (a := a) (xs := vs), fun G H m le ok => sq_l (ok.sub _ _ (le _ _ q)), fun i H x H' G m hi y le ok => ?_⟩
  obtain ⟨rfl, hx⟩ := y
  obtain ⟨d, hd, rd⟩ := r.get' hx
  exact ⟨G, d, ok, hd, rd.mono le⟩
theorem walkd_tup {K : PySem.W.Frag} {G1 : Hp} {a : Addr} {vs : List V} {ds : List Da} (q : SqT K G1 a vs) (r : Reps K G1 vs ds) : WalkD M K (Itt K a) ds G1 := by
  refine ⟨_, _, by rw [← r.length]; exact walk_tup (K := K) (a := a) (xs := vs), fun G H m le ok => sqT_same ok.sub (sqT_same le q), fun i H x H' G m hi y le ok => ?_⟩
  obtain ⟨rfl, hx⟩ := y
  obtain ⟨d, hd, rd⟩ := r.get' hx
  exact ⟨G, d, ok, hd, rd.mono le⟩
/-- a list or a tuple -/
def Seqs (P : List Da → Nat → Prop) : Da → Nat → Prop
  | .lst ds, m => P ds m
  | .tup ds, m => P ds m
  | _, _ => False
theorem iter_lst (h : EvD M X KE e sl (fun d m1 => ∃ ds, d = .lst ds ∧ KI ds m1) m) : IterD M X KE tg e sl KI m := fun G0 H0 G H σ W R ok so wi k =>
  wpI.of (pi_list pe_wp) (h G0 H0 G H σ W _ ok so wi fun v d m' G' H' p o r => by
    obtain ⟨ds, rfl, p⟩ := p
    obtain ⟨a, us, rfl, q, t⟩ := r.lst_inv
    exact ⟨a, rfl, ⟨us, sq_l (o.sub _ _ q)⟩, k _ ds m' G' H' p o (walkd_list q t)⟩)
theorem iter_tup (h : EvD M X KE e sl (fun d m1 => ∃ ds, d = .tup ds ∧ KI ds m1) m) : IterD M X KE tg e sl KI m := fun G0 H0 G H σ W R ok so wi k =>
  wpI.of (pi_tup pe_wp) (h G0 H0 G H σ W _ ok so wi fun v d m' G' H' p o r => by
    obtain ⟨ds, rfl, p⟩ := p
    obtain ⟨a, us, rfl, q, t⟩ := r.tup_inv
    exact ⟨a, rfl, ⟨us, sqT_same o.sub q⟩, k _ ds m' G' H' p o (walkd_tup q t)⟩)
/-- lo, lo + 1, .. -/
def intsD (lo : Int) (n : Nat) : List Da := (List.range n).map fun (k : Nat) => Da.int (lo + ((k : Nat) : Int))
theorem intsD_len (lo : Int) (n : Nat) : (intsD lo n).length = n := by simp [intsD]
theorem intsD_at {lo : Int} {n i : Nat} (h : i < n) : (intsD lo n)[i]? = some (.int (lo + (i : Int))) := by
  unfold intsD
  rw [List.getElem?_map, List.getElem?_range h]
  rfl
theorem walkd_range {K : PySem.W.Frag} {G1 : Hp} {lo : Int} {n : Nat} : WalkD M K (Itr lo n) (intsD lo n) G1 := by
  refine ⟨_, _, by rw [intsD_len]; exact walk_range, fun _ _ _ _ _ => trivial, fun i H x H' G m hi y le ok => ?_⟩
  obtain ⟨rfl, rfl⟩ := y
  rw [intsD_len] at hi
  exact ⟨G, _, ok, intsD_at hi, .int _⟩
theorem iter_range (cx : Ctx X N sc B) (hm : B.mg "range" = none) (h : EvD M X KE e sl (fun d m1 => ∃ j : Int, d = .int j ∧ (-(2 ^ 62) ≤ j ∧ j < 2 ^ 62) ∧ KI (intsD 0 j.toNat) m1) m) (hg : GlS sc "range" := by with_unfolding_all rfl)
    (he : starEach [e] X.env = (false, eval e X.env) :: starEach [] X.env := by with_unfolding_all rfl) : IterD M X KE tg (.Call (.Name "range" p) [e] [] pos) sl KI m := fun G0 H0 G H σ W R ok so wi k =>
  wpI.of (pi_range1 (cx.gl hg) (cx.mg hm) (pa_cons pe_wp pa_nil he) (hs := by rw [he]; rfl)) (h G0 H0 G H σ W _ ok so wi fun v d m' G' H' p o r => by
    obtain ⟨j, rfl, ⟨h0, h1⟩, p⟩ := p
    exact ⟨j, by rw [r.int_inv], h0, h1, k _ _ m' G' H' p o walkd_range⟩)
theorem iter_range2 {f : Expr} (cx : Ctx X N sc B) (hm : B.mg "range" = none) (h : EvD M X KE e sl (fun d m1 => ∃ i : Int, d = .int i ∧ EvD M X KE f sl (fun d m2 => ∃ j : Int, d = .int j ∧ (-(2 ^ 62) ≤ i ∧ i < 2 ^ 62 ∧ -(2 ^ 62) ≤ j ∧ j < 2 ^ 62) ∧ KI (intsD i (j - i).toNat) m2) m1) m) (hg : GlS sc "range" := by with_unfolding_all rfl)
    (he : starEach [e, f] X.env = (false, eval e X.env) :: starEach [f] X.env := by with_unfolding_all rfl) (hf : starEach [f] X.env = (false, eval f X.env) :: starEach [] X.env := by with_unfolding_all rfl) : IterD M X KE tg (.Call (.Name "range" p) [e, f] [] pos) sl KI m := fun G0 H0 G H σ W R ok so wi k =>
  wpI.of (pi_range2 (cx.gl hg) (cx.mg hm) (pa_cons pe_wp (pa_cons pe_wp pa_nil hf) he) (hs := by rw [he, hf]; rfl) (hs2 := by rw [hf]; rfl)) (h G0 H0 G H σ W _ ok so wi fun v d m' G' H' p o r => by
    obtain ⟨i, rfl, p⟩ := p
    refine p G0 H0 G' H' σ W _ (ok.trans o) (so.step o) (wi.step o) fun v2 d2 m2 G2 H2 p2 o2 r2 => ?_
    obtain ⟨j, rfl, h0, p2⟩ := p2
    exact ⟨i, j, by rw [r.int_inv, r2.int_inv], h0, k _ _ m2 G2 H2 p2 (o.trans o2) walkd_range⟩)
/-- pairs of a number and an item -/
def enums : Nat → List Da → List Da
  | _, [] => []
  | i, d :: ds => .tup [.int (i : Int), d] :: enums (i + 1) ds
theorem enums_len : ∀ (i : Nat) (ds : List Da), (enums i ds).length = ds.length
  | _, [] => rfl
  | i, _ :: ds => by simp [enums, enums_len (i + 1) ds]
theorem enums_at : ∀ (k : Nat) (ds : List Da) (i : Nat), (enums k ds)[i]? = ds[i]?.map fun d => .tup [.int ((k + i : Nat) : Int), d]
  | _, [], i => by simp [enums]
  | k, d :: ds, 0 => by simp [enums]
  | k, d :: ds, i + 1 => by
    simp only [enums, List.getElem?_cons_succ, enums_at (k + 1) ds i]
    rw [show k + 1 + i = k + (i + 1) by omega]
theorem walkd_enum {K : PySem.W.Frag} {G1 : Hp} {a : Addr} {vs : List V} {ds : List Da} (q : G1 a = some (.lst vs)) (r : Reps K G1 vs ds) : WalkD M K (Ite K a) (enums 0 ds) G1 := by
  refine ⟨_, _, by rw [enums_len, ← r.length]; exact walk_enum (K := K) (a := a) (xs := vs), fun G H m le ok => sq_l (ok.sub _ _ (le _ _ q)), fun i H x H' G m hi y le ok => ?_⟩
  obtain ⟨T, x1, y1, rfl, hT, rfl, e1, e2⟩ := y
  obtain ⟨d, hd, rd⟩ := r.get' e2
  cases e1
  have al := ok.alloc (o := .tup [V.int (i : Nat), y1]) hT
  refine ⟨_, .tup [.int (i : Int), d], al, ?_, .tup (sq_t upd_same) (.cons (.int _) (.cons ((rd.mono le).mono al.le) .nil))⟩
  rw [enums_at, hd]
  simp
theorem iter_enum {elts : List Expr} {kk : Nat} {tpos : Pos} (cx : Ctx X N sc B) (hm : B.mg "enumerate" = none) (h : EvD M X KE e sl (fun d m1 => ∃ ds, d = .lst ds ∧ KI (enums 0 ds) m1) m) (hg : GlS sc "enumerate" := by with_unfolding_all rfl)
    (he : starEach [e] X.env = (false, eval e X.env) :: starEach [] X.env := by with_unfolding_all rfl) : IterD M X KE (.Tuple elts kk tpos) (.Call (.Name "enumerate" p) [e] [] pos) sl KI m := fun G0 H0 G H σ W R ok so wi k =>
  wpI.of (pi_enum (cx.gl hg) (cx.mg hm) (pa_cons pe_wp pa_nil he) (hs := by rw [he]; rfl)) (h G0 H0 G H σ W _ ok so wi fun v d m' G' H' p o r => by
    obtain ⟨ds, rfl, p⟩ := p
    obtain ⟨a, us, rfl, q, t⟩ := r.lst_inv
    exact ⟨a, us, rfl, sq_l (o.sub _ _ q), k _ _ m' G' H' p o (walkd_enum q t)⟩)

/-- a loop over data, turn by turn -/
def ForD (body : Da → List Sl → Kn → Nat → Prop) (D : Kn) : List Da → List Sl → Nat → Prop
  | [], sl, m => D.nx sl m
  | d :: ds, sl, m => body d sl { D with nx := ForD body D ds, ct := ForD body D ds, bk := D.nx } m
theorem st1_for {KE : Ks} {body : List Stmt} {D : Kn} (cx : Ctx X N sc B) (h : IterD M X (KE sl) tg e sl (fun ds m1 => ForD (fun d sl D m => ∃ sl' is, Tg X N sc tg d sl sl' is ∧ StD M X KE body sl' D m) D ds sl m1) m) (hc : X.calm = true := by with_unfolding_all rfl)
    (hp : PassesOwn (model X.prog X.w) X.A X.env X.xe := by first | exact PassesOwn.never | exact passes_of rfl) (hs : ∀ x, foldedSetIterable e X.env x = pure x := by with_unfolding_all (intro _; rfl)) : St1 M X KE (.For tg e body [] pos) sl D m := fun G0 H0 G H σ W E ok so wi po =>
  wpS.of (ps_for hp hc pi_wp pg_wp pss_wp hs) (h G0 H0 G H σ W _ ok so (wi.at ok so) fun J ds m1 G1 H1 q o1 wk => by
    obtain ⟨Gd, Y, wlk, hG, hY⟩ := wk
    have okA := ok.trans o1
    have back : ∀ {G' H' m'}, Ok M G1 H0 G' H' m' → Ok M G0 H0 G' H' m' := fun k => okA.unbase k
    refine for_it wlk (fun i σ' H' => ∃ sl' G' m', Ok M G1 H0 G' H' m' ∧ SOk X.K M H0 G' H' σ' sl' ∧ ForD (fun d sl D m => ∃ sl' is, Tg X N sc tg d sl sl' is ∧ StD M X KE body sl' D m) D (ds.drop i) sl' m') ⟨sl, G1, m1, okA.rebase, so.step o1, q⟩ (fun i σ' H' _ ⟨_, G', m', k, _⟩ => hG G' H' m' k.le k.here) ?_ ?_
    · rintro i x σ' H' H2 hi ⟨sl', G', m', k1, so', fd⟩ y
      obtain ⟨G2, d, k2, hd, rd⟩ := hY i H' x H2 G' m' hi y k1.le k1.here
      have hdr : ds.drop i = d :: ds.drop (i + 1) := by
        obtain ⟨hl, e⟩ := List.getElem?_eq_some_iff.mp hd
        rw [List.drop_eq_getElem_cons hl, e]
      rw [hdr] at fd
      obtain ⟨sl2, is, tg2, sd⟩ := fd
      have ok2 := k1.trans k2
      refine tg2.run cx hc ok2 (so'.step k2) rd fun σ3 so3 _ => ?_
      refine sd G1 H0 G2 H2 σ3 W _ ok2 so3 ⟨wi.tk, fun C fs d σ sl m' G' H' q o s x => wi.ex C fs d σ sl m' G' H' q (back o) s x⟩ ⟨?_, fun v d m' G' H' q o r => po.rt v d m' G' H' q (back o) r, fun σ sl m' G' H' q o s => po.nx σ sl m' G' H' q (back o) s, ?_, fun a d m' G' H' q o r => po.rn a d m' G' H' q (back o) r⟩
      · exact fun σ4 sl4 m4 G4 H4 f o4 so4 => ⟨sl4, G4, m4, o4, so4, f⟩
      · exact fun σ4 sl4 m4 G4 H4 f o4 so4 => ⟨sl4, G4, m4, o4, so4, f⟩
    · rintro σ' H' ⟨sl', G', m', k1, so', fd⟩
      rw [List.drop_length] at fd
      exact po.nx σ' sl' m' G' H' fd (back k1) so')
end
end OZ

/-! ### comprehensions -/
namespace OZ
open PySem L2 PySem.Spec PyProof.Rows
def relabelS (scope sc : Scope) : Scope :=
  { scope with names := scope.names.map fun (n, k) => if (k == NameKind.free && sc.kind == .function && sc.names.lookup n == some .cell) then (n, NameKind.cell) else (n, k) }
theorem relabelS_eq (scope : Scope) (env : Env) : relabel scope env = relabelS scope env.scope := rfl
theorem wipe_idem (σ : L2.St) : ∀ vs : List Nat, wipe (wipe σ vs) vs = wipe σ vs := by
  have mem : ∀ (vs ws : List Nat), (∀ v ∈ vs, v ∈ ws) → ∀ τ : L2.St, wipe (wipe τ vs) ws = wipe τ ws := by
    intro vs
    induction vs with
    | nil => intro _ _ _; rfl
    | cons v vs ih =>
      intro ws h τ
      show wipe ((wipe τ vs).set v none) ws = _
      rw [wipe_set (h v (List.mem_cons_self ..)), ih ws (fun x hx => h x (List.mem_cons_of_mem _ hx))]
  exact fun vs => mem vs vs (fun _ h => h) σ
/-- said of every block of a comprehension -/
def AllX (X : Cx) (scope : Scope) (N : List Str) (sc : Scope) (B : Bd) (j : Nat) (Φ : Cx → Prop) : Prop :=
  ∀ s H C cl fp, Ctx (X.blk s H scope (compEnvC scope cl C X.env) fp) N (relabelS scope sc) B → Room j (X.blk s H scope (compEnvC scope cl C X.env) fp).A → Φ (X.blk s H scope (compEnvC scope cl C X.env) fp)
inductive IdxAt : List Str → Str → Nat → Prop
  | here {x : Str} {N : List Str} : IdxAt (x :: N) x 0
  | there {x y : Str} {N : List Str} {i : Nat} : IdxAt N x i → IdxAt (y :: N) x (i + 1)
inductive OwnT (N : List Str) : Expr → List (Str × Nat) → Prop
  | name {x : Str} {p : Pos} {i : Nat} : IdxAt N x i → OwnT N (.Name x p) [(x, i)]
  | two {e f : Expr} {k : Nat} {p : Pos} {o1 o2 : List (Str × Nat)} : OwnT N e o1 → OwnT N f o2 → OwnT N (.Tuple [e, f] k p) (o1 ++ o2)
  | three {e f g : Expr} {k : Nat} {p : Pos} {o1 o2 o3 : List (Str × Nat)} : OwnT N e o1 → OwnT N f o2 → OwnT N g o3 → OwnT N (.Tuple [e, f, g] k p) (o1 ++ (o2 ++ o3))
inductive WipeS (N : List Str) : List (Str × Nat) → List Sl → List Sl → Prop
  | nil {sl : List Sl} : WipeS N [] sl sl
  | cons {x : Str} {i : Nat} {own : List (Str × Nat)} {sl sl1 sl2 : List Sl} : WipeS N own sl sl1 → EnvSet N sl1 x i .un sl2 → WipeS N ((x, i) :: own) sl sl2
theorem WipeS.ok {K : PySem.W.Frag} {M : Mode} {H0 G H : Hp} {N : List Str} {σ : L2.St} : ∀ {own : List (Str × Nat)} {sl sl' : List Sl}, WipeS N own sl sl' → SOk K M H0 G H σ sl → SOk K M H0 G H (wipe σ (own.map (·.2))) sl'
  | _, _, _, .nil, so => so
  | _, _, _, .cons w e, so => by
    rw [e.set]
    exact (w.ok so).setN _
def CompD (step : Da → (Option Da → Nat → Prop) → Nat → Prop) : List Da → (List Da → Nat → Prop) → Nat → Prop
  | [], K, m => K [] m
  | d :: ds, K, m => step d (fun o m1 => CompD step ds (fun r m2 => K (o.toList ++ r) m2) m1) m
def lcIf (M : Mode) (X : Cx) (scope : Scope) (N : List Str) (sc : Scope) (B : Bd) (j : Nat) (ifs : List Expr) (sl : List Sl) (k : Bool → Nat → Prop) (m : Nat) : Prop :=
  match ifs with
  | [] => k true m
  | [c] => AllX X scope N sc B j fun X' => EvT M X' K0 c sl k m
  | _ => False
def lcStep (M : Mode) (X : Cx) (scope : Scope) (N : List Str) (sc : Scope) (B : Bd) (j : Nat) (vs : List Nat) (tg : Expr) (ifs : List Expr) (elt : Expr) (sl : List Sl) : Da → (Option Da → Nat → Prop) → Nat → Prop := fun d k m =>
  ∃ sl' is, (AllX X scope N sc B j fun X' => Tg X' N (relabelS scope sc) tg d sl sl' is) ∧ (∀ i ∈ is, i ∈ vs) ∧
    lcIf M X scope N sc B j ifs sl' (fun b m1 => if b = true then AllX X scope N sc B j fun X' => EvD M X' K0 elt sl' (fun y m2 => k (some y) m2) m1 else k none m1) m
def gBlk (X : Cx) (scope : Scope) (tg : Expr) : TG := fun v σ H Q => ∀ s Hb C cl fp, gTg (X.blk s Hb scope (compEnvC scope cl C X.env) fp) tg v σ H Q
def tBlk (X : Cx) (scope : Scope) (ifs : List Expr) : TT := fun σ H Q => match ifs with
  | [] => Q true H
  | [c] => ∀ s Hb C cl fp, wpT (X.blk s Hb scope (compEnvC scope cl C X.env) fp) c σ H Q
  | _ => False
def eBlk (X : Cx) (scope : Scope) (elt : Expr) : TE := fun σ H Q => ∀ s Hb C cl fp, wpE (X.blk s Hb scope (compEnvC scope cl C X.env) fp) elt σ H Q
section
variable {M : Mode} {X : Cx} {KE : Kx} {tg iter elt : Expr} {ifs : List Expr} {scope : Scope} {sl sw : List Sl} {P : Da → Nat → Prop} {m j : Nat} {pos : Pos} {N : List Str} {sc : Scope} {B : Bd} {own : List (Str × Nat)}
theorem blk_ctx (cx : Ctx X N sc B) (s : Shared) (H : Hp) (C : Addr) (cl : List (Str × Addr)) (fp : List Addr) : Ctx (X.blk s H scope (compEnvC scope cl C X.env) fp) N (relabelS scope sc) B :=
  ⟨cx.n, by show relabel scope X.env = _; rw [relabelS_eq, cx.s], cx.nd, cx.b⟩
theorem AllX.get {Φ : Cx → Prop} (h : AllX X scope N sc B j Φ) (cx : Ctx X N sc B) (hr : Room j X.A) (s : Shared) (H : Hp) (C : Addr) (cl : List (Str × Addr)) (fp : List Addr) : Φ (X.blk s H scope (compEnvC scope cl C X.env) fp) := h s H C cl fp (blk_ctx cx s H C cl fp) hr
theorem wis0 {X : Cx} {G H : Hp} {σ : L2.St} : Wis M X K0 G H σ (fun _ _ _ _ => False) := ⟨takes0, fun _ _ _ _ _ _ z => z.elim⟩
/-- the reading of a comprehension, over data -/
theorem lc_run (cx : Ctx X N sc B) (hr : Room j X.A) (hc : X.calm = true) (wp : WipeS N own sl sw) {G0 H0 G H G1 H1 : Hp} {σ : L2.St} {m1 : Nat} {J : It} {ds : List Da} {Q : VK} (ok : Ok M G0 H0 G H m) (so : SOk X.K M H0 G H σ sl) (o1 : Ok M G H G1 H1 m1) (wk : WalkD M X.K J ds G1) (hl : ds.length < sizeLine)
    (q : CompD (lcStep M X scope N sc B j (own.map (·.2)) tg ifs elt sw) ds (fun r m2 => P (.lst r) m2) m1) (D : Addr) (hD : H1 D = none)
    (fin : ∀ out m' G' H', P (.lst out) m' → Ok M G H G' H' m' → G' D = none → (H D = none ∨ M.X H D) → ¬ M.X H' D → RepM X.K G' H' D (.lst out) → Q (.ref D) H') :
    ∃ W : Nat → Nat → Hp → Prop, (∃ m, W 0 m (L2.upd H1 D (.lst []))) ∧ ∀ i m H, W i m H → (J.stop i H ∧ Q (.ref D) H) ∨ (J.go i H ∧ ∃ Nx : Hp → Prop, (∀ H', Nx H' → ∃ m', m' < m ∧ W (i + 1) m' H') ∧ ∀ x H', J.yld i H x H' →
      gBlk X scope tg x (wipe σ (own.map (·.2))) H' fun σ2 H2 => wipe σ2 (own.map (·.2)) = wipe σ (own.map (·.2)) ∧
        tBlk X scope ifs σ2 H2 fun b H3 =>
          if b = true then eBlk X scope elt σ2 H3 fun y H4 => ∃ acc, H4 D = some (.lst acc) ∧ acc.length < sizeLine ∧ Nx (L2.upd H4 D (.lst (acc ++ [y]))) else Nx H3) := by
  obtain ⟨Gd, Y, wlk, hG, hY⟩ := wk
  have nx1 : ¬ M.X H1 D := fun x => by obtain ⟨u, e⟩ := M.there _ _ _ o1.inv x; rw [hD] at e; cases e
  have gD : G1 D = none := by
    cases e : G1 D with
    | none => rfl
    | some u => rw [o1.sub _ _ e] at hD; cases hD
  have hD0 : H D = none ∨ M.X H D := by
    cases e : H D with
    | none => exact .inl rfl
    | some u =>
      by_cases x : M.X H D
      · exact .inr x
      · rw [(o1.keep D u e x).1] at hD; cases hD
  have fr : ∀ i a, Mt sw i → (wipe σ (own.map (·.2)))[i]? = some (some (.ref a)) → a ≠ D := fun i a mt e z => by
    obtain ⟨u, h1, h2⟩ := (wp.ok so).held mt e
    subst z
    rcases hD0 with h | h
    · rw [h] at h1; cases h1
    · exact h2 h
  have al : Ok M G1 H1 G1 (L2.upd H1 D (.lst [])) m1 := o1.here.allocM hD
  let Pv : Nat → Hp → Prop := fun i H' => ∃ G' m' acc out, Ok M G H G' H' m' ∧ Same G1 G' ∧ SOk X.K M H0 G' H' (wipe σ (own.map (·.2))) sw ∧ H' D = some (.lst acc) ∧ Reps X.K G' acc out ∧ out.length ≤ i ∧ G' D = none ∧ ¬ M.X H' D ∧
    CompD (lcStep M X scope N sc B j (own.map (·.2)) tg ifs elt sw) (ds.drop i) (fun r m2 => P (.lst (out ++ r)) m2) m'
  have adv : ∀ {i G' H' m' acc out} {y : V} {d : Da}, Ok M G H G' H' m' → Same G1 G' → SOk X.K M H0 G' H' (wipe σ (own.map (·.2))) sw → H' D = some (.lst acc) → Reps X.K G' acc out → out.length ≤ i → G' D = none → ¬ M.X H' D → Rep X.K G' y d →
      CompD (lcStep M X scope N sc B j (own.map (·.2)) tg ifs elt sw) (ds.drop (i + 1)) (fun r m2 => P (.lst (out ++ ((some d).toList ++ r))) m2) m' → Pv (i + 1) (L2.upd H' D (.lst (acc ++ [y]))) := by
    intro i G' H' m' acc out y d k1 k2 k3 k4 k5 k6 k7 k8 k9 k10
    have mo : Ok M G H G' (L2.upd H' D (.lst (acc ++ [y]))) m' := k1.mut k7 k8 hD0
    have nx : ∀ b, M.X (L2.upd H' D (.lst (acc ++ [y]))) b → M.X H' b := (M.clo m' H' _ k1.inv fun b u x e => by rw [upd_ne (fun q => k8 (by rw [← q]; exact x))]; exact e).2
    refine ⟨G', m', acc ++ [y], out ++ [d], mo, k2, k3.upd nx fr, upd_same, k5.append (.cons k9 .nil), by simp; omega, k7, fun x => k8 (nx _ x), ?_⟩
    simpa [List.append_assoc] using k10
  refine lc_it (g := gBlk X scope tg) (tt := tBlk X scope ifs) (te := eBlk X scope elt) (vs := own.map (·.2)) (σ := σ) (D := D) (Qd := fun H => Q (.ref D) H) wlk Pv ?_ ?_ ?_ ?_
  · refine ⟨G1, m1, [], [], o1.trans al, Same.refl _, (wp.ok ((so.step o1).step al)), upd_same, .nil, Nat.le_refl _, gD, ?_, ?_⟩
    · exact fun x => nx1 ((M.clo m1 H1 _ o1.inv fun b u x e => by rw [upd_ne (fun q => nx1 (by rw [← q]; exact x))]; exact e).2 _ x)
    · simpa using q
  · rintro i H' _ ⟨G', m', acc, out, k1, k2, _⟩
    exact hG G' H' m' k2 k1.here
  · rintro i x H' H2 hi ⟨G', m', acc, out, k1, k2, k3, k4, k5, k6, k7, k8, k9⟩ y
    obtain ⟨G2, d, e1, hd, rd⟩ := hY i H' x H2 G' m' hi y k2 k1.here
    have hdr : ds.drop i = d :: ds.drop (i + 1) := by
      obtain ⟨hl, e⟩ := List.getElem?_eq_some_iff.mp hd
      rw [List.drop_eq_getElem_cons hl, e]
    rw [hdr] at k9
    obtain ⟨sl', is, tgA, hin, hif⟩ := k9
    have ok2 : Ok M G H G2 H2 m' := k1.trans e1
    have so2 := k3.step e1
    obtain ⟨f1, f2⟩ := e1.keep D _ k4 k8
    have f3 := e1.new D _ k4 k8 k7
    intro s Hb C cl fp
    refine (tgA.get cx hr s Hb C cl fp).run (blk_ctx cx s Hb C cl fp) hc (ok.trans ok2) so2 rd fun σ' so3 w3 => ⟨(w3 _ hin).trans (wipe_idem σ _), ?_⟩
    -- behind the tests
    have rest : ∀ b m3 G3 H3, Ok M G2 H2 G3 H3 m3 → (if b = true then AllX X scope N sc B j fun X' => EvD M X' K0 elt sl' (fun y m2 => CompD (lcStep M X scope N sc B j (own.map (·.2)) tg ifs elt sw) (ds.drop (i + 1)) (fun r m2 => P (.lst (out ++ ((some y).toList ++ r))) m2) m2) m3
        else CompD (lcStep M X scope N sc B j (own.map (·.2)) tg ifs elt sw) (ds.drop (i + 1)) (fun r m2 => P (.lst (out ++ ((none : Option Da).toList ++ r))) m2) m3) →
        if b = true then (∀ s Hb C cl fp, wpE (X.blk s Hb scope (compEnvC scope cl C X.env) fp) elt σ' H3 fun y H4 => ∃ acc, H4 D = some (.lst acc) ∧ acc.length < sizeLine ∧ Pv (i + 1) (L2.upd H4 D (.lst (acc ++ [y])))) else Pv (i + 1) H3 := by
      intro b m3 G3 H3 e2 hb
      obtain ⟨g1, g2⟩ := e2.keep D _ f1 f2
      have g3 := e2.new D _ f1 f2 f3
      cases b with
      | true =>
        rw [if_pos rfl] at hb ⊢
        intro s Hb C cl fp
        refine (AllX.get hb cx hr s Hb C cl fp) G0 H0 G3 H3 σ' (fun _ _ _ _ => False) _ ((ok.trans ok2).trans e2) (so3.step e2) wis0 fun y dy m4 G4 H4 pc e3 ry => ?_
        obtain ⟨h1, h2⟩ := e3.keep D _ g1 g2
        have h3 := e3.new D _ g1 g2 g3
        refine ⟨acc, h1, by rw [k5.length]; omega, ?_⟩
        exact adv ((ok2.trans e2).trans e3) (((k2.trans e1.le).trans e2.le).trans e3.le) (((so2.step e2).step e3)) h1 ((((k5.mono e1.le).mono e2.le).mono e3.le)) k6 h3 h2 ry pc
      | false =>
        rw [if_neg Bool.false_ne_true] at hb ⊢
        exact ⟨G3, m3, acc, out, ok2.trans e2, ((k2.trans e1.le).trans e2.le), so2.step e2, g1, (k5.mono e1.le).mono e2.le, by omega, g3, g2, by simpa using hb⟩
    match ifs, hif, rest with
    | [], hif, rest => exact rest true m' G2 H2 ok2.here hif
    | [c], hif, rest =>
      intro s Hb C cl fp
      unfold lcIf at hif
      exact (AllX.get hif cx hr s Hb C cl fp) G0 H0 G2 H2 σ' (fun _ _ _ _ => False) _ (ok.trans ok2) so3 wis0 fun b m3 G3 H3 pb e2 => rest b m3 G3 H3 e2 pb
    | _ :: _ :: _, hif, _ => exact hif.elim
  · rintro H' ⟨G', m', acc, out, k1, k2, k3, k4, k5, k6, k7, k8, k9⟩
    rw [List.drop_length] at k9
    exact fin out m' G' H' (by simpa [CompD] using k9) k1 k7 hD0 k8 ⟨acc, k4, k5⟩
theorem evd_lc (cx : Ctx X N sc B) (hr : Room j X.A) (ot : OwnT N tg own) (wp : WipeS N own sl sw) (h : IterD M X KE tg iter sl (fun ds m1 => ds.length < sizeLine ∧ CompD (lcStep M X scope N sc B j (own.map (·.2)) tg ifs elt sw) ds (fun r m2 => P (.lst r) m2) m1) m)
    (hb : blkC N sc scope own = true := by with_unfolding_all decide +kernel) (hc : X.calm = true := by with_unfolding_all rfl) (hs : ∀ x, foldedSetIterable iter X.env x = pure x := by with_unfolding_all (intro _; rfl)) : EvD M X KE (.ListComp elt [⟨tg, iter, ifs, 0⟩] scope pos) sl P m := by
  intro G0 H0 G H σ W Q ok so wi po
  refine wpE.of (pe_lc (own := own) (wi := wpI X tg iter) (g := gBlk X scope tg) (tt := tBlk X scope ifs) (te := eBlk X scope elt) hc cx.nd pi_wp ?_ ?_ ?_ ?_ hs) ?_
  · rw [cx.n, cx.s]; exact blkOk_by hb
  · exact fun s Hb C cl fp => ⟨fun pins s' σ H v u Q I r q => q s Hb C cl fp pins s' u I r⟩
  · intro s Hb C cl fp
    match ifs with
    | [] => exact pts_nil
    | [c] => exact pts_one ⟨fun pins s' σ H Q I q => q s Hb C cl fp pins s' I⟩
    | _ :: _ :: _ => exact ⟨fun pins s' σ H Q I q => q.elim⟩
  · exact fun s Hb C cl fp => ⟨fun pins s' σ H Q I q => q s Hb C cl fp pins s' I⟩
  · refine h G0 H0 G H σ W _ ok so wi fun J ds m1 G1 H1 q o1 wk => fun D hD => ?_
    refine lc_run cx hr hc wp ok so o1 wk q.1 q.2 D hD fun out m' G' H' p k g h0 nx ⟨acc, e, r⟩ => ?_
    exact po _ (.lst out) m' _ H' p (k.pub e g nx h0) (.lst upd_same (r.mono (sameUp g)))
/-- name = [..] -/
theorem st1_setLc {KE : Ks} {D : Kn} {y : Str} {py spos : Pos} (cx : Ctx X N sc B) (hr : Room j X.A) (ot : OwnT N tg own) (wp : WipeS N own sl sw) (h : IterD M X (KE sl) tg iter sl (fun ds m1 => ds.length < sizeLine ∧ CompD (lcStep M X scope N sc B j (own.map (·.2)) tg ifs elt sw) ds (fun r m2 => ∃ i sl', EnvSet N sl y i (.v (.lst r)) sl' ∧ D.nx sl' m2) m1) m)
    (hsw : swapsWith (.ListComp elt [⟨tg, iter, ifs, 0⟩] scope pos) (some (.Name y py)) spos.line X.env = pure true := by with_unfolding_all exact sw_true rfl rfl rfl (by decide +kernel)) (hN : ∃ i : Nat, N[i]? = some y) (hyl : sc.names.lookup y = some .local := by with_unfolding_all rfl)
    (hb : blkC N sc scope own = true := by with_unfolding_all decide +kernel) (hc : X.calm = true := by with_unfolding_all rfl) (hs : ∀ x, foldedSetIterable iter X.env x = pure x := by with_unfolding_all (intro _; rfl)) : St1 M X KE (.Assign [.Name y py] (.ListComp elt [⟨tg, iter, ifs, 0⟩] scope pos) spos) sl D m := by
  intro G0 H0 G H σ W E ok so wi po
  obtain ⟨i, hi⟩ := hN
  refine wpS.of (ps_setLc (own := own) (i := i) (wi := wpI X tg iter) (g := gBlk X scope tg) (tt := tBlk X scope ifs) (te := eBlk X scope elt) hc cx.nd (by rw [cx.n]; exact hi) (by rw [cx.s]; exact hyl) hsw pi_wp ?_ ?_ ?_ ?_ hs) ?_
  · rw [cx.n, cx.s]; exact blkOk_by hb
  · exact fun s Hb C cl fp => ⟨fun pins s' σ H v u Q I r q => q s Hb C cl fp pins s' u I r⟩
  · intro s Hb C cl fp
    match ifs with
    | [] => exact pts_nil
    | [c] => exact pts_one ⟨fun pins s' σ H Q I q => q s Hb C cl fp pins s' I⟩
    | _ :: _ :: _ => exact ⟨fun pins s' σ H Q I q => q.elim⟩
  · exact fun s Hb C cl fp => ⟨fun pins s' σ H Q I q => q s Hb C cl fp pins s' I⟩
  · refine h G0 H0 G H σ W _ ok so (wi.at ok so) fun J ds m1 G1 H1 q o1 wk => fun D2 hD => ?_
    refine lc_run (P := fun d m2 => ∃ i sl', EnvSet N sl y i (.v d) sl' ∧ D.nx sl' m2) cx hr hc wp ok so o1 wk q.1 q.2 (Q := fun v H' => gName i v σ H' E.nx) D2 hD fun out m' G1 H' p k g h0 nx ⟨acc, e, r0⟩ => ?_
    have o := k.pub e g nx h0
    have r : Rep X.K _ (.ref D2) (.lst out) := .lst upd_same (r0.mono (sameUp g))
    obtain ⟨i', sl', es, p⟩ := p
    have hii : i' = i := nd_ix (cx.n ▸ cx.nd) es.name hi
    subst hii
    refine po.nx _ sl' m' _ H' p (ok.trans o) ?_
    rw [es.set]
    exact (so.step o).setV _ r
end
end OZ

/-! ### while, lists of the run's own, raise -/
namespace OZ
open PySem L2 PySem.Spec PyProof.Rows
section
variable {M : Mode} {X : Cx} {KE : Ks} {a b c e : Expr} {es : List Expr} {sl : List Sl} {D : Kn} {P : Da → Nat → Prop} {m j : Nat} {pos p p2 spos : Pos} {x : Str} {st : Stmt} {rest body : List Stmt} {N : List Str} {sc : Scope} {B : Bd}
/-- a while, by a word with a number that falls -/
theorem st1_while (Inv : Nat → List Sl → Nat → Prop) (h0 : ∃ k, Inv k sl m) (h : ∀ k sl m, Inv k sl m → EvT M X (KE sl) c sl (fun b m1 => if b = true then StD M X KE body sl { D with nx := fun sl' m' => ∃ k', k' < k ∧ Inv k' sl' m', ct := fun sl' m' => ∃ k', k' < k ∧ Inv k' sl' m', bk := D.nx } m1 else D.nx sl m1) m)
    (hp : PassesOwn (model X.prog X.w) X.A X.env X.xe := by first | exact PassesOwn.never | exact passes_of rfl) : St1 M X KE (.While c body [] pos) sl D m := by
  intro G0 H0 G H σ W E ok so wi po
  refine wpS.of (ps_while hp pt_wp pss_wp) ?_
  refine ⟨fun k σ' H' => ∃ sl' G' m', Ok M G0 H0 G' H' m' ∧ SOk X.K M H0 G' H' σ' sl' ∧ Inv k sl' m', ?_, ?_⟩
  · obtain ⟨k, hk⟩ := h0
    exact ⟨k, sl, G, m, ok, so, hk⟩
  · rintro k σ' H' ⟨sl', G', m', ok', so', hk⟩
    refine h k sl' m' hk G0 H0 G' H' σ' W _ ok' so' (wi.at ok' so') fun b m1 G1 H1 p1 o1 => ?_
    cases b with
    | false =>
      rw [if_neg Bool.false_ne_true] at p1 ⊢
      exact po.nx σ' sl' m1 G1 H1 p1 (ok'.trans o1) (so'.step o1)
    | true =>
      rw [if_pos rfl] at p1 ⊢
      refine ⟨fun σ2 H2 => ∃ k', k' < k ∧ ∃ sl2 G2 m2, Ok M G0 H0 G2 H2 m2 ∧ SOk X.K M H0 G2 H2 σ2 sl2 ∧ Inv k' sl2 m2, fun σ2 H2 ⟨k', l, q⟩ => ⟨k', l, q⟩, ?_⟩
      refine p1 G0 H0 G1 H1 σ' W _ (ok'.trans o1) (so'.step o1) wi ⟨?_, po.rt, po.nx, ?_, po.rn⟩
      · exact fun σ2 sl2 m2 G2 H2 ⟨k', l, q⟩ o2 so2 => ⟨k', l, sl2, G2, m2, o2, so2, q⟩
      · exact fun σ2 sl2 m2 G2 H2 ⟨k', l, q⟩ o2 so2 => ⟨k', l, sl2, G2, m2, o2, so2, q⟩

/-- the object of a slot changes -/
theorem SOk.setM {K : PySem.W.Frag} {H0 G H : Hp} {σ : L2.St} {i : Nat} {ad : Addr} {o : HO} {q0 : Option Addr} {d0 d1 : Da} (h : SOk K M H0 G H σ sl) (hi : sl[i]? = some (.mm q0 d0)) (hs : σ[i]? = some (some (.ref ad))) (nx : ∀ b, M.X (L2.upd H ad o) b → M.X H b) (r : RepM K G (L2.upd H ad o) ad d1) : SOk K M H0 G (L2.upd H ad o) σ (sl.set i (.mm q0 d1)) := by
  obtain ⟨o', e1, ad', rfl, zz, g, h0, n, _⟩ := paired_get h.rel hi
  rw [hs] at e1
  cases e1
  have dr := h.drop i
  have fr : ∀ j b, Mt (sl.set i .un) j → σ[j]? = some (some (.ref b)) → b ≠ ad := fun j b ⟨q2, d, hd⟩ e q => by
    subst q
    have nij : i ≠ j := fun z => by
      subst z
      rw [List.getElem?_set_self (List.getElem?_eq_some_iff.mp hi).1] at hd; cases hd
    rw [List.getElem?_set_ne nij] at hd
    exact nij (h.dis i j b ⟨q0, d0, hi⟩ ⟨q2, d, hd⟩ hs e)
  have up := dr.upd (o := o) nx fr
  refine ⟨?_, fun j k b mj mk ej ek => ?_⟩
  · have := paired_set (F := RelSl K M H0 G (L2.upd H ad o)) (x := some (.ref ad)) (y := .mm q0 d1) ⟨ad, rfl, zz, g, h0, fun z => n (nx _ z), r⟩ i up.rel
    rw [List.set_set] at this
    have hσ : σ.set i (some (.ref ad)) = σ := by
      apply List.ext_getElem?
      intro j
      by_cases q : i = j
      · subst q
        rw [List.getElem?_set_self (List.getElem?_eq_some_iff.mp hs).1, hs]
      · rw [List.getElem?_set_ne q]
    rw [hσ] at this
    exact this
  · have w : ∀ j, Mt (sl.set i (.mm q0 d1)) j → Mt sl j := fun j ⟨e0, e, hj⟩ => by
      by_cases q : i = j
      · subst q; exact ⟨q0, d0, hi⟩
      · rw [List.getElem?_set_ne q] at hj; exact ⟨e0, e, hj⟩
    exact h.dis j k b (w j mj) (w k mk) ej ek
theorem X_keep {G0 H0 G H : Hp} {ad : Addr} {o : HO} (ok : Ok M G0 H0 G H m) (n : ¬ M.X H ad) : ∀ b, M.X (L2.upd H ad o) b → M.X H b := (M.clo m H _ ok.inv fun b u x e => by rw [upd_ne (fun q => n (by rw [← q]; exact x))]; exact e).2
theorem SOk.newM {K : PySem.W.Frag} {H0 G H : Hp} {σ : L2.St} {ad : Addr} {d : Da} (i : Nat) (h : SOk K M H0 G H σ sl) (n : New K M H0 G H ad d) (fr : ∀ j a, Mt sl j → σ[j]? = some (some (.ref a)) → a ≠ ad) : SOk K M H0 G H (σ.set i (some (.ref ad))) (sl.set i (.m d)) := by
  refine ⟨paired_set ⟨ad, rfl, (fun _ z => nomatch z), n.g, n.h0, n.nx, n.r⟩ i h.rel, fun j k a mj mk ej ek => ?_⟩
  have w : ∀ j, Mt (sl.set i (.m d)) j → (σ.set i (some (.ref ad)))[j]? = some (some (.ref a)) → (j = i ∧ a = ad) ∨ (j ≠ i ∧ Mt sl j ∧ σ[j]? = some (some (.ref a)) ∧ a ≠ ad) := fun j ⟨e0, e, hj⟩ ej => by
    by_cases q : i = j
    · subst q
      left
      have l : i < sl.length := by
        have := (List.getElem?_eq_some_iff.mp hj).1
        simpa using this
      have l2 : i < σ.length := by
        have := (List.getElem?_eq_some_iff.mp ej).1
        simpa using this
      rw [List.getElem?_set_self l2] at ej
      simp only [Option.some.injEq, V.ref.injEq] at ej
      exact ⟨rfl, ej.symm⟩
    · rw [List.getElem?_set_ne q] at hj ej
      exact .inr ⟨fun z => q z.symm, ⟨e0, e, hj⟩, ej, fr j a ⟨e0, e, hj⟩ ej⟩
  rcases w j mj ej with ⟨a1, a2⟩ | ⟨b1, b2, b3, b4⟩ <;> rcases w k mk ek with ⟨c1, c2⟩ | ⟨d1, d2, d3, d4⟩
  · exact a1.trans c1.symm
  · exact absurd a2 d4
  · exact absurd c2 b4
  · exact h.dis j k a b2 d2 b3 d3
theorem held_ne {K : PySem.W.Frag} {G0 H0 G H : Hp} {σ : L2.St} {ad : Addr} (so : SOk K M H0 G H σ sl) (h : H ad = none ∨ M.X H ad) : ∀ j a, Mt sl j → σ[j]? = some (some (.ref a)) → a ≠ ad := fun j a mt e q => by
  subst q
  obtain ⟨u, h1, h2⟩ := so.held mt e
  rcases h with h | h
  · rw [h] at h1; cases h1
  · exact h2 h
/-- an expression that makes an object of the run's own -/
def EvN (M : Mode) (X : Cx) (KE : Kx) (e : Expr) (sl : List Sl) (P : Da → Nat → Prop) (m : Nat) : Prop :=
  ∀ (G0 H0 G H : Hp) (σ : L2.St) (W : WX) (Q : VK), Ok M G0 H0 G H m → SOk X.K M H0 G H σ sl → Wis M X KE G H σ W → (∀ ad d m' G' H', P d m' → Ok M G H G' H' m' → New X.K M H G' H' ad d → Q (.ref ad) H') → wpE X e σ H Q
theorem _root_.OZ.IdxAt.at : ∀ {N : List Str} {x : Str} {i : Nat}, IdxAt N x i → N[i]? = some x
  | _, _, _, .here => rfl
  | _, _, _, .there h => by simpa using h.at
theorem envset_at {i i' : Nat} {s : Sl} {sl' : List Sl} (nd : N.Nodup) (hi : IdxAt N x i) (es : EnvSet N sl x i' s sl') : sl' = sl.set i s := by
  have : i' = i := nd_ix nd es.name hi.at
  subst this
  exact es.set
theorem envset_eq {i i' : Nat} {s : Sl} {sl' : List Sl} (nd : N.Nodup) (hi : N[i]? = some x) (es : EnvSet N sl x i' s sl') : sl' = sl.set i s := by
  have : i' = i := nd_ix nd es.name hi
  subst this
  exact es.set
theorem evn_d {KX : Kx} {P : Da → Nat → Prop} (h : EvN M X KX e sl P m) : EvD M X KX e sl P m := fun G0 H0 G H σ W Q ok so wi po pins s I =>
  thn (h G0 H0 G H σ W (fun v H' => ∃ ad d m' G', v = .ref ad ∧ P d m' ∧ Ok M G H G' H' m' ∧ New X.K M H G' H' ad d) ok so wi (fun ad d m' G' H' p o n => ⟨ad, d, m', G', rfl, p, o, n⟩) pins s I) fun v s1 ⟨x, H1, I1, r1, ad, d, m', G', e, p, o, n⟩ => by
    obtain ⟨G2, H2, I2, o2, rep⟩ := n.pubI o I1
    subst e
    exact ⟨_, H2, I2, r1, po _ d m' G2 H2 p o2 rep⟩
theorem st1_retN' (h : EvN M X (KE sl) e sl D.rn m) : St1 M X KE (.Return (some e) pos) sl D m := fun G0 H0 G H σ W E ok so wi po =>
  wpS.of (ps_ret pe_wp) (h G0 H0 G H σ W E.rt ok so (wi.at ok so) fun ad d m' G' H' p o n => po.rn ad d m' G' H' p (ok.trans o) (n.back ok))
theorem st1_setNew {i0 : Nat} (cx : Ctx X N sc B) (h : EvN M X (KE sl) e sl (fun d m1 => ∃ i sl', EnvSet N sl x i (.m d) sl' ∧ D.nx sl' m1) m) (hi : IdxAt N x i0) (hx : Loc sc x := by with_unfolding_all first | exact Or.inl rfl | exact Or.inr rfl)
    (hs : swapsWith e (some (.Name x p)) pos.line X.env = pure false := by with_unfolding_all rfl) (hf : X.fn x = true ∨ X.env.scope.names.lookup x = some .local := by with_unfolding_all first | exact Or.inl rfl | exact Or.inr rfl) : St1 M X KE (.Assign [.Name x p] e pos) sl D m := by
  intro G0 H0 G H σ W E ok so wi po
  have hi' := hi.at
  refine wpS.of (ps_set (i := i0) cx.nd (by rw [cx.n]; exact hi') (cx.loc hx) pe_wp hs hf) ?_
  refine h G0 H0 G H σ W _ ok so (wi.at ok so) fun ad d m1 G1 H1 ⟨i, sl', es, q⟩ o1 n => ?_
  have hii : i = i0 := nd_ix (cx.n ▸ cx.nd) es.name hi'
  subst hii
  refine po.nx _ sl' m1 G1 H1 q (ok.trans o1) ?_
  rw [es.set]
  exact (so.step o1).newM i (n.back ok) (held_ne (G0 := G0) so n.h0)
theorem evn_list {KX : Kx} (h : EvA M X KX es sl (fun ds m1 => ds.length ≤ sizeLine ∧ P (.lst ds) m1) m) : EvN M X KX (.List es pos) sl P m := fun G0 H0 G H σ W Q ok so wi po =>
  wpE.of (pe_lst pa_wp) (h G0 H0 G H σ W _ ok so wi fun vs ds m1 G1 H1 ⟨l, q⟩ o r => ⟨by rw [r.length]; exact l, fun ad had => by
    have al := o.here.allocM (o := .lst vs) had
    have gA : G1 ad = none := by
      cases e : G1 ad with
      | none => rfl
      | some u => rw [o.sub _ _ e] at had; cases had
    have nx : ¬ M.X H1 ad := fun z => by obtain ⟨u, e⟩ := M.there _ _ _ o.inv z; rw [had] at e; cases e
    exact po ad _ m1 _ _ q (o.trans al) ⟨gA, fresh0 o (.inl had), fun z => nx (X_keep o nx _ z), ⟨vs, upd_same, r⟩⟩⟩)

/-! methods of an object of the run's own -/
structure OwnC (X : Cx) (T : String) (name : Str) (id : String) (r : V → List V → Hp → VK → Prop) : Prop where
  pa : PlainAttrs T
  slot : Slot T name id
  hty : typeOf (.builtin id) = pure (.type "method_descriptor")
  hm : MtR X id r
def TyM (T : String) (d : Da) : Prop := ∀ (K : PySem.W.Frag) (G H : Hp) (ad : Addr), RepM K G H ad d → tyV K T (.ref ad) H
theorem tym_lst {ds : List Da} : TyM "list" (.lst ds) := fun _ _ _ _ ⟨vs, h, _⟩ => .inl ⟨rfl, vs, sq_l h⟩
theorem tym_dct {ds : List (Key × Da)} : TyM "dict" (.dct ds) := fun _ _ _ _ ⟨vs, h, _⟩ => .inr (.inr (.inl ⟨rfl, .inl ⟨vs, h⟩⟩))
def OwnR (X : Cx) (r : V → List V → Hp → VK → Prop) (d0 : Da) (ds : List Da) (res d1 : Da) : Prop :=
  ∀ (G H : Hp) (ad : Addr) (vs : List V) (Q : VK), Same G H → RepM X.K G H ad d0 → Reps X.K G vs ds → (∀ o v, RepM X.K G (L2.upd H ad o) ad d1 → Rep X.K G v res → Q v (L2.upd H ad o)) → r (.ref ad) vs H Q
section
variable {T id : String} {name : Str} {r : V → List V → Hp → VK → Prop} {d0 : Da} {i : Nat}
theorem own_step {K : PySem.W.Frag} {G0 H0 G H : Hp} {σ : L2.St} {ad : Addr} {o : HO} {q0 : Option Addr} {d1 : Da} (ok : Ok M G0 H0 G H m) (so : SOk K M H0 G H σ sl) (hx : sl[i]? = some (.mm q0 d0)) (hs : σ[i]? = some (some (.ref ad))) (rm : RepM K G (L2.upd H ad o) ad d1) :
    Ok M G0 H0 G (L2.upd H ad o) m ∧ SOk K M H0 G (L2.upd H ad o) σ (sl.set i (.mm q0 d1)) := by
  obtain ⟨o', e1, ad', rfl, zz, g, h0, n, _⟩ := paired_get so.rel hx
  rw [hs] at e1
  cases e1
  exact ⟨ok.mut g n h0, so.setM hx hs (X_keep ok n) rm⟩
theorem own_e {R : Da → Da → Nat → Prop} (cx : Ctx X N sc B) (hx : EnvAt N sl x i (.m d0)) (C : OwnC X T name id r) (ty : TyM T d0) (h : EvA M X (KE sl) (e :: es) sl (fun ds m1 => ∃ res d1, OwnR X r d0 ds res d1 ∧ R res d1 m1) m)
    (hv : Vis sc x) (hd : (x == ("__debug__" : Str)) = false) (hcd : (x == ("__classdict__" : Str)) = false)
    (hbase : attributeBase (.Name x p) name X.env (eval (.Name x p) X.env) = eval (.Name x p) X.env)
    (hfew : ((backTo pos (starEach (e :: es) X.env)).all (fun x => !x.1) && (backToKw pos (keywordEach [] X.env)).all (fun x => x.1.isSome)
      && decide ((e :: es).length + ([] : List Keyword).length + (if ([] : List Keyword).isEmpty then 0 else 1) < 30)) = true)
    (hline : (p2.endLine == pos.line) = true) (hst : starEach (e :: es) X.env = (false, eval e X.env) :: starEach es X.env) (hplain : (backTo pos (starEach es X.env)).any (·.1) = false)
    {G0 H0 G H : Hp} {σ : L2.St} {W : WX} {Q : VK} (ok : Ok M G0 H0 G H m) (so : SOk X.K M H0 G H σ sl) (wi : Wis M X (KE sl) G H σ W)
    (po : ∀ v res d1 m1 G' H', R res d1 m1 → Ok M G0 H0 G' H' m1 → SOk X.K M H0 G' H' σ (sl.set i (.m d1)) → Rep X.K G' v res → Q v H') : wpE X (.Call (.Attribute (.Name x p) name p2) (e :: es) [] pos) σ H Q := by
  refine wpE.of (pe_bm C.pa C.slot C.hty C.hm (pe_var (by rw [cx.n]; exact hx.name) (cx.vis hv) hd hcd) pa_wp hbase hfew hline hst hplain) ?_
  obtain ⟨o, e1, ad, rfl, zz, g, h0, n, rm⟩ := paired_get so.rel hx.slot
  refine ⟨_, e1, ty _ _ _ _ rm, ?_⟩
  refine h G0 H0 G H σ W _ ok so wi fun vs ds m1 G1 H1 ⟨res, d1, own, q⟩ o1 rv => ?_
  have so1 := so.step o1
  obtain ⟨o', e2, ad', hh, zz', g', h0', n', rm'⟩ := paired_get so1.rel hx.slot
  rw [e1] at e2
  cases e2
  cases hh
  refine own G1 H1 ad vs Q o1.sub rm' rv fun w v r1 r2 => ?_
  obtain ⟨k1, k2⟩ := own_step (ok.trans o1) so1 hx.slot e1 r1
  exact po v res d1 m1 G1 _ q k1 k2 r2
theorem own_e0 {R : Da → Da → Nat → Prop} (cx : Ctx X N sc B) (hx : EnvAt N sl x i (.m d0)) (C : OwnC X T name id r) (ty : TyM T d0) (h : ∃ res d1, OwnR X r d0 [] res d1 ∧ R res d1 m)
    (hv : Vis sc x) (hd : (x == ("__debug__" : Str)) = false) (hcd : (x == ("__classdict__" : Str)) = false)
    (hbase : attributeBase (.Name x p) name X.env (eval (.Name x p) X.env) = eval (.Name x p) X.env)
    (hline : (p2.endLine == pos.line) = true)
    {G0 H0 G H : Hp} {σ : L2.St} {Q : VK} (ok : Ok M G0 H0 G H m) (so : SOk X.K M H0 G H σ sl)
    (po : ∀ v res d1 m1 G' H', R res d1 m1 → Ok M G0 H0 G' H' m1 → SOk X.K M H0 G' H' σ (sl.set i (.m d1)) → Rep X.K G' v res → Q v H') : wpE X (.Call (.Attribute (.Name x p) name p2) [] [] pos) σ H Q := by
  refine wpE.of (pe_bm0 C.pa C.slot C.hty C.hm (pe_var (by rw [cx.n]; exact hx.name) (cx.vis hv) hd hcd) hbase hline) ?_
  obtain ⟨o, e1, ad, rfl, zz, g, h0, n, rm⟩ := paired_get so.rel hx.slot
  refine ⟨_, e1, ty _ _ _ _ rm, ?_⟩
  obtain ⟨res, d1, own, q⟩ := h
  refine own G H ad [] Q ok.sub rm .nil fun w v r1 r2 => ?_
  obtain ⟨k1, k2⟩ := own_step ok so hx.slot e1 r1
  exact po v res d1 m G _ q k1 k2 r2
section
/-- x.name(..) as a statement -/
theorem st1_own (cx : Ctx X N sc B) (hx : EnvAt N sl x i (.m d0)) (C : OwnC X T name id r) (ty : TyM T d0) (h : EvA M X (KE sl) (e :: es) sl (fun ds m1 => ∃ res d1, OwnR X r d0 ds res d1 ∧ ∃ i' sl', EnvSet N sl x i' (.m d1) sl' ∧ D.nx sl' m1) m)
    (hv : Vis sc x := by with_unfolding_all first | exact Or.inl rfl | exact Or.inr (Or.inl rfl) | exact Or.inr (Or.inr rfl)) (hd : (x == ("__debug__" : Str)) = false := by with_unfolding_all decide) (hcd : (x == ("__classdict__" : Str)) = false := by with_unfolding_all decide)
    (hbase : attributeBase (.Name x p) name X.env (eval (.Name x p) X.env) = eval (.Name x p) X.env := by with_unfolding_all rfl)
    (hfew : ((backTo pos (starEach (e :: es) X.env)).all (fun x => !x.1) && (backToKw pos (keywordEach [] X.env)).all (fun x => x.1.isSome)
      && decide ((e :: es).length + ([] : List Keyword).length + (if ([] : List Keyword).isEmpty then 0 else 1) < 30)) = true := by with_unfolding_all rfl)
    (hline : (p2.endLine == pos.line) = true := by with_unfolding_all rfl) (hst : starEach (e :: es) X.env = (false, eval e X.env) :: starEach es X.env := by with_unfolding_all rfl) (hplain : (backTo pos (starEach es X.env)).any (·.1) = false := by with_unfolding_all rfl)
    (hs : swapsWith (.Call (.Attribute (.Name x p) name p2) (e :: es) [] pos) none spos.line X.env = pure false := by with_unfolding_all rfl) : St1 M X KE (.Expr (.Call (.Attribute (.Name x p) name p2) (e :: es) [] pos) spos) sl D m := fun G0 H0 G H σ W E ok so wi po =>
  wpS.of (ps_expr pe_wp hs) (own_e (R := fun _ d1 m1 => ∃ i' sl', EnvSet N sl x i' (.m d1) sl' ∧ D.nx sl' m1) cx hx C ty h hv hd hcd hbase hfew hline hst hplain ok so (wi.at ok so) fun v res d1 m1 G' H' ⟨i', sl', es, q⟩ ok' so' _ => po.nx σ _ m1 G' H' q ok' (envset_eq (cx.n ▸ cx.nd) hx.name es ▸ so'))
theorem st1_own0 (cx : Ctx X N sc B) (hx : EnvAt N sl x i (.m d0)) (C : OwnC X T name id r) (ty : TyM T d0) (h : ∃ res d1, OwnR X r d0 [] res d1 ∧ ∃ i' sl', EnvSet N sl x i' (.m d1) sl' ∧ D.nx sl' m)
    (hv : Vis sc x := by with_unfolding_all first | exact Or.inl rfl | exact Or.inr (Or.inl rfl) | exact Or.inr (Or.inr rfl)) (hd : (x == ("__debug__" : Str)) = false := by with_unfolding_all decide) (hcd : (x == ("__classdict__" : Str)) = false := by with_unfolding_all decide)
    (hbase : attributeBase (.Name x p) name X.env (eval (.Name x p) X.env) = eval (.Name x p) X.env := by with_unfolding_all rfl)
    (hline : (p2.endLine == pos.line) = true := by with_unfolding_all rfl)
    (hs : swapsWith (.Call (.Attribute (.Name x p) name p2) [] [] pos) none spos.line X.env = pure false := by with_unfolding_all rfl) : St1 M X KE (.Expr (.Call (.Attribute (.Name x p) name p2) [] [] pos) spos) sl D m := fun G0 H0 G H σ W E ok so wi po =>
  wpS.of (ps_expr pe_wp hs) (own_e0 (R := fun _ d1 m1 => ∃ i' sl', EnvSet N sl x i' (.m d1) sl' ∧ D.nx sl' m1) cx hx C ty h hv hd hcd hbase hline ok so fun v res d1 m1 G' H' ⟨i', sl', es, q⟩ ok' so' _ => po.nx σ _ m1 G' H' q ok' (envset_eq (cx.n ▸ cx.nd) hx.name es ▸ so'))
/-- y = x.name(..) -/
theorem st1_setOwn {y : Str} {py : Pos} {k : Nat} (cx : Ctx X N sc B) (hx : EnvAt N sl x i (.m d0)) (C : OwnC X T name id r) (ty : TyM T d0) (hk : IdxAt N y k) (h : EvA M X (KE sl) (e :: es) sl (fun ds m1 => ∃ res d1, OwnR X r d0 ds res d1 ∧ ∃ i' sl', EnvSet N sl x i' (.m d1) sl' ∧ ∃ k' sl2, EnvSet N sl' y k' (.v res) sl2 ∧ D.nx sl2 m1) m)
    (hy : Loc sc y := by with_unfolding_all first | exact Or.inl rfl | exact Or.inr rfl)
    (hv : Vis sc x := by with_unfolding_all first | exact Or.inl rfl | exact Or.inr (Or.inl rfl) | exact Or.inr (Or.inr rfl)) (hd : (x == ("__debug__" : Str)) = false := by with_unfolding_all decide) (hcd : (x == ("__classdict__" : Str)) = false := by with_unfolding_all decide)
    (hbase : attributeBase (.Name x p) name X.env (eval (.Name x p) X.env) = eval (.Name x p) X.env := by with_unfolding_all rfl)
    (hfew : ((backTo pos (starEach (e :: es) X.env)).all (fun x => !x.1) && (backToKw pos (keywordEach [] X.env)).all (fun x => x.1.isSome)
      && decide ((e :: es).length + ([] : List Keyword).length + (if ([] : List Keyword).isEmpty then 0 else 1) < 30)) = true := by with_unfolding_all rfl)
    (hline : (p2.endLine == pos.line) = true := by with_unfolding_all rfl) (hst : starEach (e :: es) X.env = (false, eval e X.env) :: starEach es X.env := by with_unfolding_all rfl) (hplain : (backTo pos (starEach es X.env)).any (·.1) = false := by with_unfolding_all rfl)
    (hs : swapsWith (.Call (.Attribute (.Name x p) name p2) (e :: es) [] pos) (some (.Name y py)) spos.line X.env = pure false := by with_unfolding_all rfl) (hf : X.fn y = true ∨ X.env.scope.names.lookup y = some .local := by with_unfolding_all first | exact Or.inl rfl | exact Or.inr rfl) : St1 M X KE (.Assign [.Name y py] (.Call (.Attribute (.Name x p) name p2) (e :: es) [] pos) spos) sl D m := fun G0 H0 G H σ W E ok so wi po =>
  wpS.of (ps_set (i := k) cx.nd (by rw [cx.n]; exact hk.at) (cx.loc hy) pe_wp hs hf) (own_e (R := fun res d1 m1 => ∃ i' sl', EnvSet N sl x i' (.m d1) sl' ∧ ∃ k' sl2, EnvSet N sl' y k' (.v res) sl2 ∧ D.nx sl2 m1) cx hx C ty h hv hd hcd hbase hfew hline hst hplain ok so (wi.at ok so) fun v res d1 m1 G' H' ⟨i', sl', es, k', sl2, es2, q⟩ ok' so' rr => po.nx _ _ m1 G' H' q ok' (by
    rw [envset_at (cx.n ▸ cx.nd) hk es2, envset_eq (cx.n ▸ cx.nd) hx.name es]
    exact so'.setV k rr))
theorem st1_setOwn0 {y : Str} {py : Pos} {k : Nat} (cx : Ctx X N sc B) (hx : EnvAt N sl x i (.m d0)) (C : OwnC X T name id r) (ty : TyM T d0) (hk : IdxAt N y k) (h : ∃ res d1, OwnR X r d0 [] res d1 ∧ ∃ i' sl', EnvSet N sl x i' (.m d1) sl' ∧ ∃ k' sl2, EnvSet N sl' y k' (.v res) sl2 ∧ D.nx sl2 m)
    (hy : Loc sc y := by with_unfolding_all first | exact Or.inl rfl | exact Or.inr rfl)
    (hv : Vis sc x := by with_unfolding_all first | exact Or.inl rfl | exact Or.inr (Or.inl rfl) | exact Or.inr (Or.inr rfl)) (hd : (x == ("__debug__" : Str)) = false := by with_unfolding_all decide) (hcd : (x == ("__classdict__" : Str)) = false := by with_unfolding_all decide)
    (hbase : attributeBase (.Name x p) name X.env (eval (.Name x p) X.env) = eval (.Name x p) X.env := by with_unfolding_all rfl)
    (hline : (p2.endLine == pos.line) = true := by with_unfolding_all rfl)
    (hs : swapsWith (.Call (.Attribute (.Name x p) name p2) [] [] pos) (some (.Name y py)) spos.line X.env = pure false := by with_unfolding_all rfl) (hf : X.fn y = true ∨ X.env.scope.names.lookup y = some .local := by with_unfolding_all first | exact Or.inl rfl | exact Or.inr rfl) : St1 M X KE (.Assign [.Name y py] (.Call (.Attribute (.Name x p) name p2) [] [] pos) spos) sl D m := fun G0 H0 G H σ W E ok so wi po =>
  wpS.of (ps_set (i := k) cx.nd (by rw [cx.n]; exact hk.at) (cx.loc hy) pe_wp hs hf) (own_e0 (R := fun res d1 m1 => ∃ i' sl', EnvSet N sl x i' (.m d1) sl' ∧ ∃ k' sl2, EnvSet N sl' y k' (.v res) sl2 ∧ D.nx sl2 m1) cx hx C ty h hv hd hcd hbase hline ok so fun v res d1 m1 G' H' ⟨i', sl', es, k', sl2, es2, q⟩ ok' so' rr => po.nx _ _ m1 G' H' q ok' (by
    rw [envset_at (cx.n ▸ cx.nd) hk es2, envset_eq (cx.n ▸ cx.nd) hx.name es]
    exact so'.setV k rr))
end
/-- the methods -/
theorem oc_append : OwnC X "list" "append" "list.append" rAppend := ⟨PySem.F.plainAttrs_list, PySem.F.slot_list_append, PySem.F.type_list_append, mt_append⟩
theorem oc_insert : OwnC X "list" "insert" "list.insert" (fun x vs H Q => ∃ (l : Addr) (xs : List V) (i : Int) (y : V), x = .ref l ∧ vs = [.int i, y] ∧ H l = some (.lst xs) ∧ xs.length < sizeLine ∧ 0 ≤ i ∧ i < 2 ^ 63 ∧
    Q .non (L2.upd H l (.lst (xs.take i.toNat ++ [y] ++ xs.drop i.toNat)))) := ⟨PySem.F.plainAttrs_list, PySem.F.slot_list_insert, PySem.F.type_list_insert, mt_insert⟩
theorem oc_extend : OwnC X "list" "extend" "list.extend" rExtend := ⟨PySem.F.plainAttrs_list, PySem.F.slot_list_extend, PySem.F.type_list_extend, mt_extend⟩
theorem oc_pop : OwnC X "list" "pop" "list.pop" rPop := ⟨PySem.F.plainAttrs_list, PySem.F.slot_list_pop, PySem.F.type_list_pop, mt_pop⟩
theorem oc_popAt : OwnC X "list" "pop" "list.pop" rPopAt := ⟨PySem.F.plainAttrs_list, PySem.F.slot_list_pop, PySem.F.type_list_pop, mt_popAt⟩
theorem oc_clear : OwnC X "list" "clear" "list.clear" rClear := ⟨PySem.F.plainAttrs_list, PySem.F.slot_list_clear, PySem.F.type_list_clear, mt_clear⟩
theorem own_append {ds : List Da} {d : Da} (h : ds.length < sizeLine) : OwnR X rAppend (.lst ds) [d] .non (.lst (ds ++ [d])) := fun G H ad vs Q s rm r k => by
  obtain ⟨us, e, ru⟩ := rm
  obtain ⟨v, rfl, rv⟩ := reps1 r
  exact ⟨ad, us, v, rfl, rfl, e, by rw [ru.length]; exact h, k _ _ ⟨_, upd_same, ru.append (.cons rv .nil)⟩ .non⟩
theorem own_insert {ds : List Da} {d : Da} {i : Int} (h : ds.length < sizeLine) (h0 : 0 ≤ i) (h1 : i < 9223372036854775808) : OwnR X (fun x vs H Q => ∃ (l : Addr) (xs : List V) (i : Int) (y : V), x = .ref l ∧ vs = [.int i, y] ∧ H l = some (.lst xs) ∧ xs.length < sizeLine ∧ 0 ≤ i ∧ i < 2 ^ 63 ∧
    Q .non (L2.upd H l (.lst (xs.take i.toNat ++ [y] ++ xs.drop i.toNat)))) (.lst ds) [.int i, d] .non (.lst (ds.take i.toNat ++ [d] ++ ds.drop i.toNat)) := fun G H ad vs Q s rm r k => by
  obtain ⟨us, e, ru⟩ := rm
  obtain ⟨v, w, rfl, rv, rw'⟩ := reps2 r
  cases rv.int_inv
  exact ⟨ad, us, i, w, rfl, rfl, e, by rw [ru.length]; exact h, h0, h1, k _ _ ⟨_, upd_same, ((ru.take _).append (.cons rw' .nil)).append (ru.drop _)⟩ .non⟩
theorem own_extend {ds es : List Da} (h : ds.length + es.length ≤ sizeLine) : OwnR X rExtend (.lst ds) [.lst es] .non (.lst (ds ++ es)) := fun G H ad vs Q s rm r k => by
  obtain ⟨us, e, ru⟩ := rm
  obtain ⟨v, rfl, rv⟩ := reps1 r
  obtain ⟨b, ws, rfl, q, rw'⟩ := rv.lst_inv
  exact ⟨ad, b, us, ws, rfl, rfl, e, s _ _ q, by rw [ru.length, rw'.length]; exact h, k _ _ ⟨_, upd_same, ru.append rw'⟩ .non⟩
theorem reps_eraseIdx {K : PySem.W.Frag} {G : Hp} : ∀ {vs : List V} {ds : List Da} (i : Nat), Reps K G vs ds → Reps K G (vs.eraseIdx i) (ds.eraseIdx i)
  | _, _, _, .nil => .nil
  | _, _, 0, .cons _ b => b
  | _, _, i + 1, .cons a b => .cons a (reps_eraseIdx i b)
theorem reps_dropLast {K : PySem.W.Frag} {G : Hp} : ∀ {vs : List V} {ds : List Da}, Reps K G vs ds → Reps K G vs.dropLast ds.dropLast
  | _, _, .nil => .nil
  | _, _, .cons a .nil => .nil
  | _, _, .cons a (.cons b c) => .cons a (reps_dropLast (.cons b c))
theorem own_popAt {ds : List Da} {d : Da} {i : Int} (h0 : 0 ≤ i) (h1 : i < 9223372036854775808) (hd : ds[i.toNat]? = some d) : OwnR X rPopAt (.lst ds) [.int i] d (.lst (ds.eraseIdx i.toNat)) := fun G H ad vs Q s rm r k => by
  obtain ⟨us, e, ru⟩ := rm
  obtain ⟨v, rfl, rv⟩ := reps1 r
  cases rv.int_inv
  obtain ⟨w, hw, rw'⟩ := ru.get hd
  have hl := (List.getElem?_eq_some_iff.mp hw).1
  exact ⟨ad, us, i, i.toNat, w, rfl, rfl, e, by omega, h1, seqIndex_of h0 (by omega), hw, k _ _ ⟨_, upd_same, reps_eraseIdx _ ru⟩ rw'⟩
theorem own_pop {ds : List Da} {d : Da} (hd : ds[ds.length - 1]? = some d) : OwnR X rPop (.lst ds) [] d (.lst ds.dropLast) := fun G H ad vs Q s rm r k => by
  obtain ⟨us, e, ru⟩ := rm
  cases r
  obtain ⟨w, hw, rw'⟩ := ru.get hd
  exact ⟨ad, us, w, rfl, rfl, e, by rw [ru.length]; exact hw, k _ _ ⟨_, upd_same, reps_dropLast ru⟩ rw'⟩
theorem own_clear {ds : List Da} : OwnR X rClear (.lst ds) [] .non (.lst []) := fun G H ad vs Q s rm r k => by
  obtain ⟨us, e, ru⟩ := rm
  cases r
  exact ⟨ad, us, rfl, rfl, e, k _ _ ⟨_, upd_same, .nil⟩ .non⟩
end
end
end OZ

/-! ### calls with keywords, of methods, of classes -/
namespace OZ
open PySem L2 PySem.Spec PyProof.Rows
def wpK (X : Cx) (kws : List Keyword) : TA := fun σ H Q => ∀ (pos : Pos) pins s, Inv X pins σ H s → wpAny (model X.prog X.w) X.A (evalAll ((backToKw pos (keywordEach kws X.env)).map (·.2))) (AP X pins σ Q) X.xe s
theorem pk_wp {X : Cx} {kws : List Keyword} : PK X kws (wpK X kws) := ⟨fun pos pins s _ _ _ I h => h pos pins s I⟩
theorem wpK.of {X : Cx} {kws : List Keyword} {t : TA} {σ : L2.St} {H : Hp} {Q : List V → Hp → Prop} (p : PK X kws t) (h : t σ H Q) : wpK X kws σ H Q := fun pos pins s I => p.run pos pins s σ H Q I h
def EvK (M : Mode) (X : Cx) (KE : Kx) (kws : List Keyword) (sl : List Sl) (P : List Da → Nat → Prop) (m : Nat) : Prop :=
  ∀ (G0 H0 G H : Hp) (σ : L2.St) (W : WX) (Q : List V → Hp → Prop), Ok M G0 H0 G H m → SOk X.K M H0 G H σ sl → Wis M X KE G H σ W → PostA M X.K G H P Q → wpK X kws σ H Q
section
variable {M : Mode} {X : Cx} {KE : Kx} {a e o : Expr} {es : List Expr} {kws : List Keyword} {sl : List Sl} {P : Da → Nat → Prop} {PA' : List Da → Nat → Prop} {m : Nat} {pos p apos kpos : Pos} {x nm : Str} {nm' : Option Str}
theorem evk_nil (k : PA' [] m) : EvK M X KE [] sl PA' m := fun _ _ G H _ _ _ ok _ _ po => wpK.of pk_nil (po _ _ m G H k ok.here .nil)
theorem evk_cons (h : EvD M X KE e sl (fun d m1 => EvK M X KE kws sl (fun ds m2 => PA' (d :: ds) m2) m1) m) : EvK M X KE (⟨nm', e, kpos⟩ :: kws) sl PA' m := fun G0 H0 G H σ W Q ok so wi po =>
  wpK.of (pk_cons pe_wp pk_wp) (h G0 H0 G H σ W _ ok so wi fun v d m' G' H' p o r => p G0 H0 G' H' σ W _ (ok.trans o) (so.step o) (wi.step o) fun vs ds m2 G2 H2 p2 o2 r2 => po _ _ m2 G2 H2 p2 (o.trans o2) (.cons (r.mono o2.le) r2))
theorem EvK.run (h : EvK M X KE kws sl PA' m) {G0 H0 G H : Hp} {σ : L2.St} {W : WX} (ok : Ok M G0 H0 G H m) (so : SOk X.K M H0 G H σ sl) (wi : Wis M X KE G H σ W) {pins : List (Addr × Obj)} {s : Shared} (I : Inv X pins σ H s) {Q : List Value → Shared → Prop}
    (k : ∀ us s' vs ds m' G' H', PA' ds m' → Ok M G0 H0 G' H' m' → Ok M G H G' H' m' → SOk X.K M H0 G' H' σ sl → Wis M X KE G' H' σ W → Reps X.K G' vs ds → Inv X pins σ H' s' → Vals vs us → Q us s') (pos : Pos) : wpAny (model X.prog X.w) X.A (evalAll ((backToKw pos (keywordEach kws X.env)).map (·.2))) Q X.xe s :=
  thn (h G0 H0 G H σ W (fun vs H' => ∃ ds m' G', PA' ds m' ∧ Ok M G H G' H' m' ∧ Reps X.K G' vs ds) ok so wi (fun v d m' G' H' p o r => ⟨d, m', G', p, o, r⟩) pos pins s I)
    fun u s' ⟨v, H', I', rv, d, m', G', p, o, r⟩ => k u s' v d m' G' H' p (ok.trans o) o (so.step o) (wi.step o) r I' rv

/-- the code of a def, told of data -/
def CodeD (M : Mode) (X : Cx) (KE : Kx) (f : Addr) (ks : List Str) (ds es : List Da) (P : Da → Nat → Prop) (m : Nat) : Prop :=
  ∀ (G H : Hp) (σ : L2.St) (W : WX) (Q : VK) (vs zs : List V), Ok M G H G H m → Wis M X KE G H σ W → Reps X.K G vs ds → Reps X.K G zs es → Post M X.K G H P Q →
    ∀ pins s us ws, Inv X pins σ H s → Vals vs us → Vals zs ws → codeAny (model X.prog X.w) X.A (.call (.ref f) ⟨us, ks.zip ws⟩) (fun r s' => match r with | .ok (.ret v) => EP X pins σ Q v s' | .ok _ => False | .error e => X.xe e s') s
/-- .. of a value that is called -/
def CallK (M : Mode) (X : Cx) (KE : Kx) (f : Value) (ks : List Str) (ds es : List Da) (P : Da → Nat → Prop) (m : Nat) : Prop :=
  ∀ (G H : Hp) (σ : L2.St) (W : WX) (Q : VK) (vs zs : List V), Ok M G H G H m → Wis M X KE G H σ W → Reps X.K G vs ds → Reps X.K G zs es → Post M X.K G H P Q →
    ∀ pins s us ws, Inv X pins σ H s → Vals vs us → Vals zs ws → wpAny (model X.prog X.w) X.A (call f us (ks.zip ws)) (EP X pins σ Q) X.xe s
theorem CodeD.k {f : Addr} {ks : List Str} {ds es : List Da} (c : CodeD M X KE f ks ds es P m) : CallK M X KE (.ref f) ks ds es P m := fun G H σ W Q vs zs ok wi r1 r2 po pins s us ws I e1 e2 => wpAny_call (c G H σ W Q vs zs ok wi r1 r2 po pins s us ws I e1 e2)
theorem CallD.k {f : Value} {ds : List Da} (c : CallD M X KE f ds P m) : CallK M X KE f [] ds [] P m := fun G H σ W Q vs zs ok wi r1 r2 po pins s us ws I e1 e2 => c G H σ W Q vs ok wi r1 po pins s us I e1
theorem CallK.d {f : Value} {ds : List Da} (c : CallK M X KE f [] ds [] P m) : CallD M X KE f ds P m := fun G H σ W Q vs ok wi r1 po pins s us I e1 => c G H σ W Q vs [] ok wi r1 .nil po pins s us [] I e1 .nil
/-- a def, n values and keywords named ks -/
structure FnK (M : Mode) (B : Bd) (k : Nat) (f : Addr) (n : Nat) (ks : List Str) (gD : List Da → List Da → List Da) (F : FD) : Prop where
  ex : ∃ (CX : CXT) (fd : FuncData) (ps : List Str) (g : List Value → List Value → List Value) (gV : List V → List V → List V), FnOk B.P B.w B.K B.mg B.base CX k f fd ps (spD M B.K ps.length F) ∧ KBn B.K fd ps n ks g gV ∧
    (∀ (G : Hp) (vs zs : List V) (ds es : List Da), Reps B.K G vs ds → Reps B.K G zs es → ds.length = n → es.length = ks.length → Reps B.K G (gV vs zs) (gD ds es) ∧ (gD ds es).length = ps.length) ∧ (CX = CX0 ∨ CX = L2.CX B.P B.w)
theorem FnG.k {B : Bd} {k n : Nat} {f : Addr} {F : FD} (c : FnG M B k f n F) : FnK M B k f n [] (fun ds _ => ds) F := by
  obtain ⟨CX, fd, ps, Fo, hb, hc, hn⟩ := c.ex
  subst hn
  refine ⟨CX, fd, ps, fun us _ => us, fun vs _ => vs, Fo, ⟨fun s us ws Kin l1 l2 => ?_, fun a _ => a⟩, fun G vs zs ds es r1 r2 h1 _ => ⟨r1, h1⟩, hc⟩
  have := hb s us Kin (by rw [List.append_nil]; exact l1)
  rw [List.append_nil] at this
  exact this
/-- a pure def within any mode -/
theorem spD_pure {K : PySem.W.Frag} {n : Nat} {F : FD} {vs : List V} {H : Hp} {Q : VK} {E : XK} (h : spD M K n (fun ds KR KE m => F ds (fun d _ => KR d m) (fun C fs _ => KE C fs m) 0) vs H Q E) : spD pureM K n F vs H Q E := by
  obtain ⟨hl, G, m, ds, KR, KE, ok, r, hF, po, px⟩ := h
  exact ⟨hl, G, 0, ds, _, _, ok.toPure, r, hF, fun v d m' G' H' p o rr => po v d m G' H' p (ok.lift o) rr, fun C fs d m' G' H' p o x => px C fs d m G' H' p (ok.lift o) x⟩
def FP (F : FD) : FD := fun ds KR KE m => F ds (fun d _ => KR d m) (fun C fs _ => KE C fs m) 0
theorem FnG.lift {B : Bd} {k n : Nat} {f : Addr} {F : FD} (c : FnG pureM B k f n F) : FnG M B k f n (FP F) := by
  obtain ⟨CX, fd, ps, Fo, hb, hc, hn⟩ := c.ex
  exact ⟨CX, fd, ps, Fo.imp fun _ _ _ _ q => spD_pure q, hb, hc, hn⟩
theorem FnK.lift {B : Bd} {k n : Nat} {f : Addr} {ks : List Str} {gD : List Da → List Da → List Da} {F : FD} (c : FnK pureM B k f n ks gD F) : FnK M B k f n ks gD (FP F) := by
  obtain ⟨CX, fd, ps, g, gV, Fo, hb, hr, hc⟩ := c.ex
  exact ⟨CX, fd, ps, g, gV, Fo.imp fun _ _ _ _ q => spD_pure q, hb, hr, hc⟩
theorem FnK.code {k j n : Nat} {f : Addr} {ks : List Str} {gD : List Da → List Da → List Da} {F : FD} {ds es : List Da} (C : FnK M (bdOf X) k f n ks gD F) (hr : Room j X.A) (h1 : ds.length = n) (h2 : es.length = ks.length) (h : F (gD ds es) P KE m) (hk : k ≤ j) : CodeD M X KE f ks ds es P m := by
  obtain ⟨CX, fd, ps, g, gV, Fo, hb, hrep, hc⟩ := C.ex
  intro G H σ W Q vs zs ok wi r1 r2 po pins s us ws I e1 e2
  obtain ⟨rr, rl⟩ := hrep G vs zs ds es r1 r2 h1 h2
  have l1 : us.length = n := by rw [← e1.length, r1.length, h1]
  have l2 : ws.length = ks.length := by rw [← e2.length, r2.length, h2]
  have sp : spD M X.K ps.length F (gV vs zs) H Q (WE W σ) := ⟨rr.length.trans rl, G, m, _, P, KE, ok, rr, h, po, fun C fs d m' G' H' => wi.ex C fs d m' G' H'⟩
  refine codeAny_mono (Fo.run X.A X.stack s H ⟨us, ks.zip ws⟩ (g us ws) (gV vs zs) Q (WE W σ) (hr.mono hk) I.env0 (hb.to s us ws I.kIn l1 l2) (hb.rel e1 e2) sp) fun r s' hq => ?_
  cases r with
  | error e => exact passes_any wi.tk hc σ pins H s e s' I hq
  | ok fl =>
    cases fl with
    | ret u => exact I.after hq
    | next => exact False.elim hq
    | brk => exact False.elim hq
    | cont => exact False.elim hq
/-- x(e, .., k = v, ..), x a def or class of the text -/
theorem evd_callX {N : List Str} {sc : Scope} {B : Bd} {f : Addr} {ks : List Str} (cx : Ctx X N sc B) (hm : B.mg x = some (.ref f)) (hk : PySem.W.keepIn X.K (.ref f) = true) (h : EvA M X KE (e :: es) sl (fun ds m1 => EvK M X KE kws sl (fun zs m2 => zs.length = ks.length ∧ CallK M X KE (.ref f) ks ds zs P m2) m1) m) (hg : GlS sc x := by with_unfolding_all rfl) (hdb : (x == ("__debug__" : Str)) = false := by with_unfolding_all decide)
    (hall : (backToKw pos (keywordEach kws X.env)).all (·.1.isSome) = true := by with_unfolding_all rfl) (hks : (backToKw pos (keywordEach kws X.env)).filterMap (·.1) = ks := by with_unfolding_all rfl)
    (he : starEach (e :: es) X.env = (false, eval e X.env) :: starEach es X.env := by with_unfolding_all rfl) (hpl : ((backTo pos (starEach (e :: es) X.env)).any (·.1) || (backToKw pos (keywordEach kws X.env)).any (·.1.isNone)) = false := by with_unfolding_all rfl) : EvD M X KE (.Call (.Name x p) (e :: es) kws pos) sl P m := by
  intro G0 H0 G H σ W Q ok so wi po pins s I
  refine wpAny_Call_Name_kw (ld_glob I (cx.gl hg) (cx.mg hm) ?_ hdb)
  refine PySem.W.callWith_KW (h₀ := X.base) I.ok.mod.kin hk hall (h.run ok so wi I (fun us s1 vs ds m1 G1 H1 p1 k1 o1 so1 wi1 r1 I1 rv1 => ?_) pos) hpl he
  refine p1.run k1 so1 wi1 I1 (fun ws s2 zs es' m2 G2 H2 p2 k2 o2 so2 wi2 r2 I2 rv2 => ?_) pos
  rw [hks]
  exact ⟨I2.kIn, p2.2 G2 H2 σ W Q vs zs k2.here wi2 (r1.mono o2.le) r2 (po.step (o1.trans o2)) pins s2 us ws I2 rv1 rv2⟩
theorem evd_callX0 {N : List Str} {sc : Scope} {B : Bd} {f : Addr} {ks : List Str} (cx : Ctx X N sc B) (hm : B.mg x = some (.ref f)) (hk : PySem.W.keepIn X.K (.ref f) = true) (h : EvK M X KE kws sl (fun zs m2 => zs.length = ks.length ∧ CallK M X KE (.ref f) ks [] zs P m2) m) (hg : GlS sc x := by with_unfolding_all rfl) (hdb : (x == ("__debug__" : Str)) = false := by with_unfolding_all decide)
    (hall : (backToKw pos (keywordEach kws X.env)).all (·.1.isSome) = true := by with_unfolding_all rfl) (hks : (backToKw pos (keywordEach kws X.env)).filterMap (·.1) = ks := by with_unfolding_all rfl)
    (hpl : ((backTo pos (starEach [] X.env)).any (·.1) || (backToKw pos (keywordEach kws X.env)).any (·.1.isNone)) = false := by with_unfolding_all rfl) : EvD M X KE (.Call (.Name x p) [] kws pos) sl P m := by
  intro G0 H0 G H σ W Q ok so wi po pins s I
  refine wpAny_Call_Name_kw (ld_glob I (cx.gl hg) (cx.mg hm) ?_ hdb)
  refine PySem.W.callWith_KW0 (h₀ := X.base) I.ok.mod.kin hk hall ?_ hpl
  refine h.run ok so wi I (fun ws s2 zs es' m2 G2 H2 p2 k2 o2 so2 wi2 r2 I2 rv2 => ?_) pos
  rw [hks]
  exact ⟨I2.kIn, p2.2 G2 H2 σ W Q [] zs k2.here wi2 .nil r2 (po.step o2) pins s2 [] ws I2 .nil rv2⟩
/-- a def of the text by its name, with keywords or without -/
structure CallGK (M : Mode) (B : Bd) (k : Nat) (x : Str) (n : Nat) (ks : List Str) (gD : List Da → List Da → List Da) (F : FD) : Prop where
  ex : ∃ f : Addr, B.mg x = some (.ref f) ∧ PySem.W.keepIn B.K (.ref f) = true ∧ FnK M B k f n ks gD F
theorem CallG.k {B : Bd} {k n : Nat} {F : FD} (c : CallG M B k x n F) : CallGK M B k x n [] (fun ds _ => ds) F := by
  obtain ⟨f, h1, h2, c⟩ := c.ex
  exact ⟨f, h1, h2, c.k⟩
theorem CallG.lift {B : Bd} {k n : Nat} {F : FD} (c : CallG pureM B k x n F) : CallG M B k x n (FP F) := by
  obtain ⟨f, h1, h2, c⟩ := c.ex
  exact ⟨f, h1, h2, c.lift⟩
theorem CallGK.lift {B : Bd} {k n : Nat} {ks : List Str} {gD : List Da → List Da → List Da} {F : FD} (c : CallGK pureM B k x n ks gD F) : CallGK M B k x n ks gD (FP F) := by
  obtain ⟨f, h1, h2, c⟩ := c.ex
  exact ⟨f, h1, h2, c.lift⟩
theorem evk_imp {P' : List Da → Nat → Prop} (h : EvK M X KE kws sl PA' m) (k : ∀ d m', PA' d m' → P' d m') : EvK M X KE kws sl P' m :=
  fun G0 H0 G H σ W Q ok so wi po => h G0 H0 G H σ W Q ok so wi fun v d m' G' H' p o r => po v d m' G' H' (k d m' p) o r
theorem evd_callK {N : List Str} {sc : Scope} {B : Bd} {k j n : Nat} {ks : List Str} {gD : List Da → List Da → List Da} {F : FD} (cx : Ctx X N sc B) (C : CallGK M B k x n ks gD F) (hr : Room j X.A) (h : EvA M X KE (e :: es) sl (fun ds m1 => EvK M X KE kws sl (fun zs m2 => zs.length = ks.length ∧ ds.length = n ∧ F (gD ds zs) P KE m2) m1) m) (hk : k ≤ j := by with_unfolding_all decide) (hg : GlS sc x := by with_unfolding_all rfl) (hdb : (x == ("__debug__" : Str)) = false := by with_unfolding_all decide)
    (hall : (backToKw pos (keywordEach kws X.env)).all (·.1.isSome) = true := by with_unfolding_all rfl) (hks : (backToKw pos (keywordEach kws X.env)).filterMap (·.1) = ks := by with_unfolding_all rfl)
    (he : starEach (e :: es) X.env = (false, eval e X.env) :: starEach es X.env := by with_unfolding_all rfl) (hpl : ((backTo pos (starEach (e :: es) X.env)).any (·.1) || (backToKw pos (keywordEach kws X.env)).any (·.1.isNone)) = false := by with_unfolding_all rfl) : EvD M X KE (.Call (.Name x p) (e :: es) kws pos) sl P m := by
  have eb := cx.b
  subst eb
  obtain ⟨f, hm, hkp, c⟩ := C.ex
  exact evd_callX (ks := ks) cx hm hkp (eva_imp h fun ds m1 q => evk_imp q fun zs m2 z => ⟨z.1, (c.code hr z.2.1 z.1 z.2.2 hk).k⟩) hg hdb hall hks he hpl
theorem evd_callK0 {N : List Str} {sc : Scope} {B : Bd} {k j : Nat} {ks : List Str} {gD : List Da → List Da → List Da} {F : FD} (cx : Ctx X N sc B) (C : CallGK M B k x 0 ks gD F) (hr : Room j X.A) (h : EvK M X KE kws sl (fun zs m2 => zs.length = ks.length ∧ F (gD [] zs) P KE m2) m) (hk : k ≤ j := by with_unfolding_all decide) (hg : GlS sc x := by with_unfolding_all rfl) (hdb : (x == ("__debug__" : Str)) = false := by with_unfolding_all decide)
    (hall : (backToKw pos (keywordEach kws X.env)).all (·.1.isSome) = true := by with_unfolding_all rfl) (hks : (backToKw pos (keywordEach kws X.env)).filterMap (·.1) = ks := by with_unfolding_all rfl)
    (hpl : ((backTo pos (starEach [] X.env)).any (·.1) || (backToKw pos (keywordEach kws X.env)).any (·.1.isNone)) = false := by with_unfolding_all rfl) : EvD M X KE (.Call (.Name x p) [] kws pos) sl P m := by
  have eb := cx.b
  subst eb
  obtain ⟨f, hm, hkp, c⟩ := C.ex
  exact evd_callX0 (ks := ks) cx hm hkp (evk_imp h fun zs m2 z => ⟨z.1, (c.code hr rfl z.1 z.2 hk).k⟩) hg hdb hall hks hpl
end
end OZ

/-! ### own classes: fields, methods, properties, making -/
namespace OZ
open PySem L2 PySem.Spec PyProof.Rows
def putDa (f : Str) (v : Da) : List (Str × Da) → List (Str × Da)
  | [] => [(f, v)]
  | (g, x) :: r => if g = f then (g, v) :: r else (g, x) :: putDa f v r
theorem RepF.put {K : PySem.W.Frag} {G : Hp} {f : Str} {v : V} {d : Da} (r : Rep K G v d) : ∀ {vs : List (Str × V)} {fs : List (Str × Da)}, RepF K G vs fs → RepF K G (putF f v vs) (putDa f d fs)
  | _, _, .nil => .cons r .nil
  | _, _, .cons (k := k) a b => by
    unfold putF putDa
    by_cases h : k = f
    · rw [if_pos h, if_pos h]; exact .cons r b
    · rw [if_neg h, if_neg h]; exact .cons a (RepF.put r b)
theorem RepF.length {K : PySem.W.Frag} {G : Hp} : ∀ {vs : List (Str × V)} {fs : List (Str × Da)}, RepF K G vs fs → vs.length = fs.length
  | _, _, .nil => rfl
  | _, _, .cons _ b => by simp [RepF.length b]
section
variable {M : Mode} {X : Cx} {KE : Kx} {a e o : Expr} {es : List Expr} {kws : List Keyword} {sl : List Sl} {P : Da → Nat → Prop} {m j k n : Nat} {pos p apos : Pos} {f mt : Str} {C : Addr} {ks : List Str} {gD : List Da → List Da → List Da} {F : FD} {N : List Str} {sc : Scope} {B : Bd}
/-- o.f -/
theorem evd_fld (h : EvD M X KE e sl (fun d m1 => ∃ C fs v, d = .obj C fs ∧ Cls X.K C ∧ NoAttr X.K C f ∧ fs.lookup f = some v ∧ P v m1) m) (hb : attributeBase e f X.env (eval e X.env) = eval e X.env := by with_unfolding_all rfl) : EvD M X KE (.Attribute e f pos) sl P m := fun G0 H0 G H σ W Q ok so wi po =>
  wpE.of (pe_fld pe_wp hb) (h G0 H0 G H σ W _ ok so wi fun v d m' G' H' q o r => by
    obtain ⟨C, fs, w, rfl, c, na, l, q⟩ := q
    obtain ⟨ad, dx, vs, rfl, ea, rf⟩ := r.obj_inv
    obtain ⟨u, hu, ru⟩ := rf.look l
    exact ⟨ad, C, dx, vs, u, rfl, o.sub _ _ ea, c, na, hu, po u w m' G' H' q o ru⟩)
/-- .. of a property -/
structure PropG (M : Mode) (B : Bd) (k : Nat) (C : Addr) (f : Str) (F : FD) : Prop where
  ex : ∃ (p g : Addr) (fd : FuncData) (ps : List Str), Cls B.K C ∧ PropOf B.K C f p g ∧ FnOk B.P B.w B.K B.mg B.base CX0 k g fd ps (spD M B.K 1 F) ∧ Binds B.K fd ps []
theorem evd_prop (cx : Ctx X N sc B) (c : PropG M B k C f F) (hr : Room j X.A) (h : EvD M X KE e sl (fun d m1 => ∃ fs, d = .obj C fs ∧ F [.obj C fs] P K0 m1) m) (hk : k + 1 ≤ j := by with_unfolding_all decide) (hb : attributeBase e f X.env (eval e X.env) = eval e X.env := by with_unfolding_all rfl) : EvD M X KE (.Attribute e f pos) sl P m := by
  have eb := cx.b
  subst eb
  obtain ⟨p, g, fd, ps, cl, po', Fo, bn⟩ := c.ex
  exact fun G0 H0 G H σ W Q ok so wi po =>
    wpE.of (pe_prop (E := fun _ _ _ => False) pe_wp cl po' Fo (hr.mono hk) bn .nil pass0 hb) (h G0 H0 G H σ W _ ok so wi fun v d m' G' H' q o r => by
      obtain ⟨fs, rfl, q⟩ := q
      have r0 := r
      obtain ⟨ad, dx, vs, rfl, ea, rf⟩ := r.obj_inv
      exact ⟨ad, dx, vs, rfl, o.sub _ _ ea, rfl, G', m', _, P, K0, o.here, .cons r0 .nil, q, po.step o, fun _ _ _ _ _ _ z => z.elim⟩)
/-- o.m(e, ..) -/
structure MethG (M : Mode) (B : Bd) (k : Nat) (C : Addr) (mt : Str) (n : Nat) (ks : List Str) (gD : List Da → List Da → List Da) (F : FD) : Prop where
  ex : ∃ g : Addr, Cls B.K C ∧ Meth B.K C mt g ∧ FnK M B k g (n + 1) ks gD F
theorem MethG.lift (c : MethG pureM B k C mt n ks gD F) : MethG M B k C mt n ks gD (FP F) := by
  obtain ⟨g, c1, c2, c3⟩ := c.ex
  exact ⟨g, c1, c2, c3.lift⟩
theorem evd_meth {pl : Sem Bool} (cx : Ctx X N sc B) (c : MethG M B k C mt n ks gD F) (hr : Room j X.A) (h : EvD M X KE o sl (fun d m0 => ∃ fs, d = .obj C fs ∧ fs.lookup mt = none ∧ EvA M X KE (e :: es) sl (fun ds m1 => EvK M X KE kws sl (fun zs m2 => zs.length = ks.length ∧ ds.length = n ∧ F (gD (.obj C fs :: ds) zs) P KE m2) m1) m0) m) (hk : k ≤ j := by with_unfolding_all decide)
    (hall : (backToKw pos (keywordEach kws X.env)).all (·.1.isSome) = true := by with_unfolding_all rfl) (hks : (backToKw pos (keywordEach kws X.env)).filterMap (·.1) = ks := by with_unfolding_all rfl)
    (he : starEach (e :: es) X.env = (false, eval e X.env) :: starEach es X.env := by with_unfolding_all rfl) (hpl : ((backTo pos (starEach (e :: es) X.env)).any (·.1) || (backToKw pos (keywordEach kws X.env)).any (·.1.isNone)) = false := by with_unfolding_all rfl)
    (ht : eval (.Call (.Attribute o mt apos) (e :: es) kws pos) X.env = (do
      let ov ← eval o X.env
      standAt apos.atName
      let (f, first) ← holding [ov] (getMethod ov mt pl)
      callWith pos f first (backTo pos (starEach (e :: es) X.env)) (backToKw pos (keywordEach kws X.env))) := by with_unfolding_all rfl) : EvD M X KE (.Call (.Attribute o mt apos) (e :: es) kws pos) sl P m := by
  have eb := cx.b
  subst eb
  obtain ⟨g, cl, me, fk⟩ := c.ex
  intro G0 H0 G H σ W Q ok so wi po pins s I
  refine PySem.W.methodCall_KW (pl := pl) (h.run ok so wi I fun u s1 v d m1 G1 H1 p1 k1 o1 so1 wi1 r1 I1 rv1 => ?_) ht
  obtain ⟨fs, rfl, l, p1⟩ := p1
  have r0 := r1
  obtain ⟨ad, dx, vs0, rfl, ea, rf⟩ := r1.obj_inv
  cases rv1
  refine getmeth_ok I1 (k1.sub _ _ ea) cl me (rf.lookN l) ?_
  refine PySem.W.callWith_KW (first := [.ref ad]) (h₀ := X.base) I.ok.mod.kin me.kp hall (p1.run k1 so1 wi1 I1 (fun us s2 vs ds m2 G2 H2 p2 k2 o2 so2 wi2 r2 I2 rv2 => ?_) pos) hpl he
  refine p2.run k2 so2 wi2 I2 (fun ws s3 zs es' m3 G3 H3 p3 k3 o3 so3 wi3 r3 I3 rv3 => ?_) pos
  rw [hks]
  refine ⟨I3.kIn, ?_⟩
  exact (fk.code hr (by simp [p3.2.1]) p3.1 p3.2.2 hk).k G3 H3 σ W Q (.ref ad :: vs) zs k3.here wi3 (.cons ((r0.mono o2.le).mono o3.le) (r2.mono o3.le)) r3 (po.step ((o1.trans o2).trans o3)) pins s3 (.ref ad :: us) ws I3 (.cons rfl rv2) rv3
theorem evd_meth0 {pl : Sem Bool} (cx : Ctx X N sc B) (c : MethG M B k C mt 0 ks gD F) (hr : Room j X.A) (h : EvD M X KE o sl (fun d m0 => ∃ fs, d = .obj C fs ∧ fs.lookup mt = none ∧ EvK M X KE kws sl (fun zs m2 => zs.length = ks.length ∧ F (gD [.obj C fs] zs) P KE m2) m0) m) (hk : k ≤ j := by with_unfolding_all decide)
    (hall : (backToKw pos (keywordEach kws X.env)).all (·.1.isSome) = true := by with_unfolding_all rfl) (hks : (backToKw pos (keywordEach kws X.env)).filterMap (·.1) = ks := by with_unfolding_all rfl)
    (hpl : ((backTo pos (starEach [] X.env)).any (·.1) || (backToKw pos (keywordEach kws X.env)).any (·.1.isNone)) = false := by with_unfolding_all rfl)
    (ht : eval (.Call (.Attribute o mt apos) [] kws pos) X.env = (do
      let ov ← eval o X.env
      standAt apos.atName
      let (f, first) ← holding [ov] (getMethod ov mt pl)
      callWith pos f first (backTo pos (starEach [] X.env)) (backToKw pos (keywordEach kws X.env))) := by with_unfolding_all rfl) : EvD M X KE (.Call (.Attribute o mt apos) [] kws pos) sl P m := by
  have eb := cx.b
  subst eb
  obtain ⟨g, cl, me, fk⟩ := c.ex
  intro G0 H0 G H σ W Q ok so wi po pins s I
  refine PySem.W.methodCall_KW (pl := pl) (h.run ok so wi I fun u s1 v d m1 G1 H1 p1 k1 o1 so1 wi1 r1 I1 rv1 => ?_) ht
  obtain ⟨fs, rfl, l, p1⟩ := p1
  have r0 := r1
  obtain ⟨ad, dx, vs0, rfl, ea, rf⟩ := r1.obj_inv
  cases rv1
  refine getmeth_ok I1 (k1.sub _ _ ea) cl me (rf.lookN l) ?_
  refine PySem.W.callWith_KW0 (first := [.ref ad]) (h₀ := X.base) I.ok.mod.kin me.kp hall ?_ hpl
  refine p1.run k1 so1 wi1 I1 (fun ws s3 zs es' m3 G3 H3 p3 k3 o3 so3 wi3 r3 I3 rv3 => ?_) pos
  rw [hks]
  refine ⟨I3.kIn, ?_⟩
  exact (fk.code hr rfl p3.1 p3.2 hk).k G3 H3 σ W Q [.ref ad] zs k3.here wi3 (.cons (r0.mono o3.le) .nil) r3 (po.step (o1.trans o3)) pins s3 [.ref ad] ws I3 (.cons rfl .nil) rv3
/-- C.m(e, ..), m a classmethod -/
structure ClsG (M : Mode) (B : Bd) (k : Nat) (C : Addr) (mt : Str) (n : Nat) (ks : List Str) (gD : List Da → List Da → List Da) (F : FD) : Prop where
  ex : ∃ (p g : Addr) (mc : Value), ClX.CRead B.K C mc ∧ ClX.CMet B.K C mc mt p g ∧ FnK M B k g (n + 1) ks gD F
theorem ClsG.lift (c : ClsG pureM B k C mt n ks gD F) : ClsG M B k C mt n ks gD (FP F) := by
  obtain ⟨p, g, mc, c1, c2, c3⟩ := c.ex
  exact ⟨p, g, mc, c1, c2, c3.lift⟩
theorem evd_cmeth {pl : Sem Bool} (cx : Ctx X N sc B) (c : ClsG M B k C mt n ks gD F) (hr : Room j X.A) (h : EvD M X KE o sl (fun d m0 => d = .ref C ∧ EvA M X KE (e :: es) sl (fun ds m1 => EvK M X KE kws sl (fun zs m2 => zs.length = ks.length ∧ ds.length = n ∧ F (gD (.ref C :: ds) zs) P KE m2) m1) m0) m) (hk : k ≤ j := by with_unfolding_all decide)
    (hall : (backToKw pos (keywordEach kws X.env)).all (·.1.isSome) = true := by with_unfolding_all rfl) (hks : (backToKw pos (keywordEach kws X.env)).filterMap (·.1) = ks := by with_unfolding_all rfl)
    (he : starEach (e :: es) X.env = (false, eval e X.env) :: starEach es X.env := by with_unfolding_all rfl) (hpl : ((backTo pos (starEach (e :: es) X.env)).any (·.1) || (backToKw pos (keywordEach kws X.env)).any (·.1.isNone)) = false := by with_unfolding_all rfl)
    (ht : eval (.Call (.Attribute o mt apos) (e :: es) kws pos) X.env = (do
      let ov ← eval o X.env
      standAt apos.atName
      let (f, first) ← holding [ov] (getMethod ov mt pl)
      callWith pos f first (backTo pos (starEach (e :: es) X.env)) (backToKw pos (keywordEach kws X.env))) := by with_unfolding_all rfl) : EvD M X KE (.Call (.Attribute o mt apos) (e :: es) kws pos) sl P m := by
  have eb := cx.b
  subst eb
  obtain ⟨pp, g, mc, cr, cm, fk⟩ := c.ex
  intro G0 H0 G H σ W Q ok so wi po pins s I
  refine PySem.W.methodCall_KW (pl := pl) (h.run ok so wi I fun u s1 v d m1 G1 H1 p1 k1 o1 so1 wi1 r1 I1 rv1 => ?_) ht
  obtain ⟨rfl, p1⟩ := p1
  cases r1.ref_inv
  cases rv1
  refine ClX.getmethcm_ok I1 cr cm fun s2 I2 => ?_
  refine PySem.W.callWith_of hpl (PySem.W.keeps_M (K := X.K) (self := .ref C) cm.fi) (evalArgs_kw2 hall (p1.run k1 so1 wi1 I2 (fun us s3 vs ds m2 G2 H2 p2 k2 o2 so2 wi2 r2 I3 rv2 => ?_) pos) he)
  refine p2.run k2 so2 wi2 I3 (fun ws s4 zs es' m3 G3 H3 p3 k3 o3 so3 wi3 r3 I4 rv3 => ?_) pos
  rw [hks]
  refine ⟨⟨ClX.pin_at I4, I4.kIn⟩, ?_⟩
  refine wpAny_call (PySem.W.method_call (ClX.pin_at I4) ?_)
  refine codeAny_mono ((fk.code hr (by simp [p3.2.1]) p3.1 p3.2.2 hk) G3 H3 σ W Q (.ref C :: vs) zs k3.here wi3 (.cons (.ref C) (r2.mono o3.le)) r3 (po.step ((o1.trans o2).trans o3)) _ s4 (.ref C :: us) ws I4 (.cons rfl rv2) rv3) fun r s5 z => ?_
  match r, z with
  | .ok (.ret u), z => exact ClX.unpinE z
  | .ok .next, z => exact z.elim
  | .ok .brk, z => exact z.elim
  | .ok .cont, z => exact z.elim
  | .error _, z => exact z
theorem evd_cmeth0 {pl : Sem Bool} (cx : Ctx X N sc B) (c : ClsG M B k C mt 0 ks gD F) (hr : Room j X.A) (h : EvD M X KE o sl (fun d m0 => d = .ref C ∧ EvK M X KE kws sl (fun zs m2 => zs.length = ks.length ∧ F (gD [.ref C] zs) P KE m2) m0) m) (hk : k ≤ j := by with_unfolding_all decide)
    (hall : (backToKw pos (keywordEach kws X.env)).all (·.1.isSome) = true := by with_unfolding_all rfl) (hks : (backToKw pos (keywordEach kws X.env)).filterMap (·.1) = ks := by with_unfolding_all rfl)
    (hpl : ((backTo pos (starEach [] X.env)).any (·.1) || (backToKw pos (keywordEach kws X.env)).any (·.1.isNone)) = false := by with_unfolding_all rfl)
    (ht : eval (.Call (.Attribute o mt apos) [] kws pos) X.env = (do
      let ov ← eval o X.env
      standAt apos.atName
      let (f, first) ← holding [ov] (getMethod ov mt pl)
      callWith pos f first (backTo pos (starEach [] X.env)) (backToKw pos (keywordEach kws X.env))) := by with_unfolding_all rfl) : EvD M X KE (.Call (.Attribute o mt apos) [] kws pos) sl P m := by
  have eb := cx.b
  subst eb
  obtain ⟨pp, g, mc, cr, cm, fk⟩ := c.ex
  intro G0 H0 G H σ W Q ok so wi po pins s I
  refine PySem.W.methodCall_KW (pl := pl) (h.run ok so wi I fun u s1 v d m1 G1 H1 p1 k1 o1 so1 wi1 r1 I1 rv1 => ?_) ht
  obtain ⟨rfl, p1⟩ := p1
  cases r1.ref_inv
  cases rv1
  refine ClX.getmethcm_ok I1 cr cm fun s2 I2 => ?_
  refine PySem.W.callWith_of hpl (PySem.W.keeps_M (K := X.K) (self := .ref C) cm.fi) (evalArgs_kw2_nil hall ?_)
  refine p1.run k1 so1 wi1 I2 (fun ws s4 zs es' m3 G3 H3 p3 k3 o3 so3 wi3 r3 I4 rv3 => ?_) pos
  rw [hks]
  refine ⟨⟨ClX.pin_at I4, I4.kIn⟩, ?_⟩
  refine wpAny_call (PySem.W.method_call (ClX.pin_at I4) ?_)
  refine codeAny_mono ((fk.code hr rfl p3.1 p3.2 hk) G3 H3 σ W Q [.ref C] zs k3.here wi3 (.cons (.ref C) .nil) r3 (po.step (o1.trans o3)) _ s4 [.ref C] ws I4 (.cons rfl .nil) rv3) fun r s5 z => ?_
  match r, z with
  | .ok (.ret u), z => exact ClX.unpinE z
  | .ok .next, z => exact z.elim
  | .ok .brk, z => exact z.elim
  | .ok .cont, z => exact z.elim
  | .error _, z => exact z
/-- f(e, ..), f an instance -/
structure InstG (M : Mode) (B : Bd) (k : Nat) (C : Addr) (n : Nat) (F : FD) : Prop where
  ex : ∃ g : Addr, StX.CallO B.K C g ∧ FnK M B k g (n + 1) [] (fun ds _ => ds) F
theorem InstG.lift (c : InstG pureM B k C n F) : InstG M B k C n (FP F) := by
  obtain ⟨g, c1, c2⟩ := c.ex
  exact ⟨g, c1, c2.lift⟩
theorem evd_inst (cx : Ctx X N sc B) (c : InstG M B k C n F) (hr : Room j X.A) (h : EvD M X KE o sl (fun d m0 => ∃ fs, d = .obj C fs ∧ EvA M X KE (e :: es) sl (fun ds m1 => ds.length = n ∧ F (.obj C fs :: ds) P KE m1) m0) m) (hk : k ≤ j := by with_unfolding_all decide)
    (ht : eval (.Call o (e :: es) [] pos) X.env = (do callWith pos (← eval o X.env) [] (backTo pos (starEach (e :: es) X.env)) (backToKw pos (keywordEach [] X.env))) := by with_unfolding_all rfl)
    (he : starEach (e :: es) X.env = (false, eval e X.env) :: starEach es X.env := by with_unfolding_all rfl) (hpl : (backTo pos (starEach es X.env)).any (·.1) = false := by with_unfolding_all rfl) : EvD M X KE (.Call o (e :: es) [] pos) sl P m := by
  have eb := cx.b
  subst eb
  obtain ⟨g, co, fk⟩ := c.ex
  intro G0 H0 G H σ W Q ok so wi po pins s I
  refine Call_ (h.run ok so wi I fun u s1 v d m1 G1 H1 p1 k1 o1 so1 wi1 r1 I1 rv1 => ?_) ht
  obtain ⟨fs, rfl, p1⟩ := p1
  have r0 := r1
  obtain ⟨ad, dx, vs0, rfl, ea, rf⟩ := r1.obj_inv
  cases rv1
  refine StX.callO_with (p1.run k1 so1 wi1 I1 (fun us s2 vs ds m2 G2 H2 p2 k2 o2 so2 wi2 r2 I2 rv2 => ?_) pos) he hpl
  obtain ⟨ox, od, J, hd⟩ := StX.insC_at (C := C) I2 (.inr ⟨dx, vs0, k2.sub _ _ (o2.le _ _ ea)⟩)
  refine ⟨⟨C, ox, od, J, hd⟩, wpAny_call (PySem.W.kco_code I2.kIn J hd co.at_ co.fn co.fi ?_)⟩
  exact (fk.code (ks := []) (es := []) hr (by simp [p2.1]) rfl p2.2 hk) G2 H2 σ W Q (.ref ad :: vs) [] k2.here wi2 (.cons (r0.mono o2.le) r2) .nil (po.step (o1.trans o2)) pins s2 (.ref ad :: us) [] I2 (.cons rfl rv2) .nil
/-- x(e, ..), x a local that holds a class -/
theorem evd_callL {x : Str} {i : Nat} (cx : Ctx X N sc B) (hx : EnvAt N sl x i (.v (.ref C))) (hk : PySem.W.keepIn X.K (.ref C) = true) (h : EvA M X KE (e :: es) sl (fun ds m1 => CallD M X KE (.ref C) ds P m1) m)
    (hv : Vis sc x := by with_unfolding_all first | exact Or.inl rfl | exact Or.inr (Or.inl rfl) | exact Or.inr (Or.inr rfl)) (hd : (x == ("__debug__" : Str)) = false := by with_unfolding_all decide) (hcd : (x == ("__classdict__" : Str)) = false := by with_unfolding_all decide)
    (ht : eval (.Call (.Name x p) (e :: es) [] pos) X.env = (do callWith pos (← eval (.Name x p) X.env) [] (backTo pos (starEach (e :: es) X.env)) (backToKw pos (keywordEach [] X.env))) := by with_unfolding_all rfl)
    (he : starEach (e :: es) X.env = (false, eval e X.env) :: starEach es X.env := by with_unfolding_all rfl) (hpl : (backTo pos (starEach es X.env)).any (·.1) = false := by with_unfolding_all rfl) : EvD M X KE (.Call (.Name x p) (e :: es) [] pos) sl P m := by
  intro G0 H0 G H σ W Q ok so wi po pins s I
  have hn : EvD M X KE (.Name x p) sl (fun d m0 => d = .ref C ∧ m0 = m) m := evd_name cx hx ⟨rfl, rfl⟩ hv hd hcd
  refine Call_ (hn.run ok so wi I fun u s1 v d m1 G1 H1 p1 k1 o1 so1 wi1 r1 I1 rv1 => ?_) ht
  obtain ⟨rfl, rfl⟩ := p1
  cases r1.ref_inv
  cases rv1
  refine PySem.W.callWith_K (h₀ := X.base) I.ok.mod.kin hk (h.run k1 so1 wi1 I1 (fun us s1 vs ds m2 G2 H2 p2 k2 o2 so2 wi2 r2 I2 rv2 => ?_) pos) he hpl
  exact ⟨I2.kIn, p2 G2 H2 σ W Q vs k2.here wi2 r2 (po.step (o1.trans o2)) pins s1 us I2 rv2⟩
end
end OZ

/-! ### making an instance; errors; try -/
namespace OZ
open PySem L2 PySem.Spec PyProof.Rows
theorem sok_startB {K : PySem.W.Frag} {M : Mode} {Hb G H : Hp} {N : List Str} {vs : List V} {ds : List Da} (r : Reps K G vs ds) : SOk K M Hb G H (L2.start N vs) (startD N ds) := by
  have e : ∀ n : Nat, Paired (RelSl K M Hb G H) (List.replicate n none) (List.replicate n .un) := fun n => by
    induction n with
    | zero => exact .nil
    | succ n ih => rw [List.replicate_succ, List.replicate_succ]; exact .cons trivial ih
  have f : ∀ {vs : List V} {ds : List Da} {xs : L2.St} {ys : List Sl}, Reps K G vs ds → Paired (RelSl K M Hb G H) xs ys → Paired (RelSl K M Hb G H) (vs.map some ++ xs) (ds.map Sl.v ++ ys) := by
    intro vs ds xs ys r q
    induction vs generalizing ds with
    | nil => cases r; exact q
    | cons v vs ih => cases r with | cons a b => exact .cons ⟨v, rfl, a⟩ (ih b)
  refine ⟨by unfold L2.start startD; rw [← r.length]; exact f r (e _), fun i j a ⟨q, d, hd⟩ => ?_⟩
  have hm : Sl.mm q d ∈ startD N ds := List.mem_of_getElem? hd
  unfold startD at hm
  rcases List.mem_append.mp hm with h | h
  · obtain ⟨_, _, h⟩ := List.mem_map.mp h; cases h
  · cases (List.mem_replicate.mp h).2
theorem start_noM {N : List Str} {ds : List Da} {j : Nat} : ¬ Mt (startD N ds) j := fun ⟨q, d, hd⟩ => by
  have hm : Sl.mm q d ∈ startD N ds := List.mem_of_getElem? hd
  unfold startD at hm
  rcases List.mem_append.mp hm with h | h
  · obtain ⟨_, _, h⟩ := List.mem_map.mp h; cases h
  · cases (List.mem_replicate.mp h).2
abbrev FI := List Da → (List (Str × Da) → Nat → Prop) → Kx → Nat → Prop
def spI (M : Mode) (K : PySem.W.Frag) (C : Addr) (n : Nat) (F : FI) : Sp := fun vs H Q E => vs.length = n + 1 ∧ ∃ (x dx : Addr) (rest : List V) (H0 G : Hp) (m : Nat) (ds : List Da) (KR : List (Str × Da) → Nat → Prop) (KE : Kx),
  vs = .ref x :: rest ∧ H0 x = none ∧ H0 dx = none ∧ dx ≠ x ∧ H = L2.upd (L2.upd H0 dx (.own x)) x (.ins C dx []) ∧ Ok M G H0 G H0 m ∧ Reps K G rest ds ∧ F ds KR KE m ∧
  (∀ fs m' G' H', KR fs m' → Ok M G H0 G' H' m' → New K M H0 G' H' x (.obj C fs) → Q .non H') ∧
  (∀ C' fs d m' G' H', KE C' fs m' → Ok M G H0 G' H' m' → XRep K G' H' d fs → E (.ref C') d H')
/-- a class of the text that is called -/
structure MakeG (M : Mode) (B : Bd) (k : Nat) (C : Addr) (n : Nat) (ks : List Str) (gD : List Da → List Da → List Da) (F : FI) : Prop where
  ex : ∃ (f : Addr) (CX : CXT) (fd : FuncData) (ps : List Str) (g : List Value → List Value → List Value) (gV : List V → List V → List V) (r : Nat), Mk B.K C f ∧ FnOk B.P B.w B.K B.mg B.base CX k f fd ps (spI M B.K C r F) ∧ KBn B.K fd ps (n + 1) ks g gV ∧
    (∀ (G : Hp) (x : Addr) (vs zs : List V) (ds es : List Da), Reps B.K G vs ds → Reps B.K G zs es → ds.length = n → es.length = ks.length → ∃ rest, gV (.ref x :: vs) zs = .ref x :: rest ∧ Reps B.K G rest (gD ds es) ∧ (gD ds es).length = r) ∧ (CX = CX0 ∨ CX = L2.CX B.P B.w)
section
variable {M : Mode} {X : Cx} {KE : Kx} {KS : Ks} {a e o : Expr} {es : List Expr} {kws : List Keyword} {sl : List Sl} {D : Kn} {P : Da → Nat → Prop} {m j k n : Nat} {pos p p2 apos spos : Pos} {f mt x : Str} {C : Addr} {ks : List Str} {gD : List Da → List Da → List Da} {N : List Str} {sc : Scope} {B : Bd}
def CallKN (M : Mode) (X : Cx) (KE : Kx) (f : Value) (ks : List Str) (ds es : List Da) (P : Da → Nat → Prop) (m : Nat) : Prop :=
  ∀ (G H : Hp) (σ : L2.St) (W : WX) (Q : VK) (vs zs : List V), Ok M G H G H m → Wis M X KE G H σ W → Reps X.K G vs ds → Reps X.K G zs es → (∀ ad d m' G' H', P d m' → Ok M G H G' H' m' → New X.K M H G' H' ad d → Q (.ref ad) H') →
    ∀ pins s us ws, Inv X pins σ H s → Vals vs us → Vals zs ws → wpAny (model X.prog X.w) X.A (call f us (ks.zip ws)) (EP X pins σ Q) X.xe s
theorem CallKN.toK {f : Value} {ds es : List Da} (c : CallKN M X KE f ks ds es P m) : CallK M X KE f ks ds es P m := fun G H σ W Q vs zs ok wi r1 r2 po pins s us ws I e1 e2 =>
  thn (c G H σ W (fun v H' => ∃ ad d m' G', v = .ref ad ∧ P d m' ∧ Ok M G H G' H' m' ∧ New X.K M H G' H' ad d) vs zs ok wi r1 r2 (fun ad d m' G' H' q o n => ⟨ad, d, m', G', rfl, q, o, n⟩) pins s us ws I e1 e2) fun v s1 ⟨x, H1, I1, rv, ad, d, m', G', e, p, o, n⟩ => by
    obtain ⟨G2, H2, I2, o2, rep⟩ := n.pubI o I1
    subst e
    exact ⟨_, H2, I2, rv, po _ d m' G2 H2 p o2 rep⟩
theorem MakeG.call {F : FI} {ds es : List Da} (c : MakeG M (bdOf X) k C n ks gD F) (hr : Room j X.A) (h1 : ds.length = n) (h2 : es.length = ks.length) (h : F (gD ds es) (fun fs m1 => P (.obj C fs) m1) KE m) (hk : k + 1 ≤ j) : CallKN M X KE (.ref C) ks ds es P m := by
  obtain ⟨f, CX, fd, ps, g, gV, r, Mk', Fo, hb, hrep, hc⟩ := c.ex
  intro G H σ W Q vs zs ok wi r1 r2 po pins s us ws I e1 e2
  have l2 : ws.length = ks.length := by rw [← e2.length, r2.length, h2]
  have l1 : us.length = n := by rw [← e1.length, r1.length, h1]
  have n1 : (Value.ref (s.heap.objs.size + 1) :: us).length = n + 1 := by rw [List.length_cons, l1]
  have hx : H (s.heap.objs.size + 1) = none := I.hok.fresh (Nat.le_succ _)
  have hdx : H s.heap.objs.size = none := I.hok.fresh (Nat.le_refl _)
  have ne : s.heap.objs.size ≠ s.heap.objs.size + 1 := Nat.ne_of_lt (Nat.lt_succ_self _)
  have I2 := Inv.made (C := C) I
  have rr : Vals (V.ref (s.heap.objs.size + 1) :: vs) (Value.ref (s.heap.objs.size + 1) :: us) := .cons rfl e1
  obtain ⟨rest, ge, gr, gl⟩ := hrep G (s.heap.objs.size + 1) vs zs ds es r1 r2 h1 h2
  have rv := hb.rel rr e2
  have sp : spI M X.K C r F (gV (.ref (s.heap.objs.size + 1) :: vs) zs) (L2.upd (L2.upd H s.heap.objs.size (.own (s.heap.objs.size + 1))) (s.heap.objs.size + 1) (.ins C s.heap.objs.size [])) (fun v H2 => v = .non ∧ Q (.ref (s.heap.objs.size + 1)) H2) (WE W σ) := by
    refine ⟨by rw [ge, List.length_cons, gr.length, gl], _, _, rest, H, G, m, _, _, KE, ge, hx, hdx, ne, rfl, ok, gr, h, fun fs m' G' H' q o nw => ⟨rfl, po _ _ m' G' H' q o nw⟩, fun C' fs d m' G' H' => wi.ex C' fs d m' G' H'⟩
  refine wpAny_call (make_map (f := f) I.kIn Mk'.makes Mk'.init (beq_iff_eq.mp Mk'.fn) (codeAny_mono (Fo.run _ X.stack _ _ ⟨Value.ref (s.heap.objs.size + 1) :: us, ks.zip ws⟩ (g (Value.ref (s.heap.objs.size + 1) :: us) ws) _ _ (WE W σ) ((hr.mono hk).make C us (ks.zip ws))
    (I2.env0.make C us (ks.zip ws)) (hb.to _ (Value.ref (s.heap.objs.size + 1) :: us) ws I2.kIn n1 l2) rv sp) fun r s' hq' => ?_))
  cases r with
  | error e => exact passes_any wi.tk hc σ pins _ _ e s' I2 hq'
  | ok fl =>
    cases fl with
    | ret u =>
      obtain ⟨v, H', I3, rv, ev, q3⟩ := I2.after hq'
      subst ev
      exact ⟨rv, ⟨V.ref (s.heap.objs.size + 1), H', I3, rfl, q3⟩⟩
    | next => exact False.elim hq'
    | brk => exact False.elim hq'
    | cont => exact False.elim hq'
/-- self.f = e -/
theorem st1_setF {i : Nat} {q : Option Addr} {fs : List (Str × Da)} {p' : Pos} (cx : Ctx X N sc B) (hx : EnvAt N sl x i (.mm q (.obj C fs))) (cl : Cls X.K C) (na : NoAttr X.K C f) (h : EvD M X (KS sl) e sl (fun d m1 => fs.length < 1000 ∧ ∃ i' sl', EnvSet N sl x i' (.mm q (.obj C (putDa f d fs))) sl' ∧ D.nx sl' m1) m)
    (hv : Vis sc x := by with_unfolding_all first | exact Or.inl rfl | exact Or.inr (Or.inl rfl) | exact Or.inr (Or.inr rfl)) (hd : (x == ("__debug__" : Str)) = false := by with_unfolding_all decide) (hcd : (x == ("__classdict__" : Str)) = false := by with_unfolding_all decide)
    (hs : swapsWith e (some (.Attribute (.Name x p) f p')) pos.line X.env = pure false := by with_unfolding_all rfl) : St1 M X KS (.Assign [.Attribute (.Name x p) f p'] e pos) sl D m := fun G0 H0 G H σ W E ok so wi po => by
  refine wpS.of (ps_fld (pe_var (by rw [cx.n]; exact hx.name) (cx.vis hv) hd hcd) pe_wp hs) ?_
  refine h G0 H0 G H σ W _ ok so (wi.at ok so) fun v d m1 G1 H1 ⟨l, i', sl', es, nx⟩ o1 r => ?_
  have ok1 := ok.trans o1
  have so1 := so.step o1
  obtain ⟨o', e1, ad, rfl, zz, g, h0, nxx, dx, vs, eh, rf⟩ := paired_get so1.rel hx.slot
  refine ⟨.ref ad, e1, ad, C, dx, vs, rfl, eh, cl, na, by rw [rf.length]; exact l, ?_⟩
  obtain ⟨k1, k2⟩ := own_step (o := .ins C dx (putF f v vs)) ok1 so1 hx.slot e1 (d1 := .obj C (putDa f d fs)) ⟨dx, _, upd_same, rf.put r⟩
  exact po.nx σ _ m1 G1 _ nx k1 (envset_eq (cx.n ▸ cx.nd) hx.name es ▸ k2)
end
section
variable {B : Bd} {M : Mode} {x qual : Str} {st : Stmt} {f C : Addr} {fd : FuncData} {N ps : List Str} {k n : Nat} {F : FI} {ks : List Str} {gD : List Da → List Da → List Da}
theorem fnI_ok (Fn : Fun B.K x qual st f fd) (S : FnScope N ps (defScope st)) (hn : n + 1 = ps.length)
    (h : ∀ (X : Cx) (ds : List Da) (KR : List (Str × Da) → Nat → Prop) (KE : Kx) (m : Nat) (a : Addr), (∃ cdv A outer s H E, X = cxOf (L2.CX B.P B.w) B.P B.w B.K B.mg B.base N qual (defScope st) f cdv A outer s H E) → Ctx X N (defScope st) B → Room k X.A → ds.length = n → F ds KR KE m →
      StD M X (fun _ => KE) (defBody st) ((startD N (.ref a :: ds)).set 0 (.mm (some a) (.obj C []))) { nx := fun sl' m' => ∃ fs, sl'[0]? = some (.mm (some a) (.obj C fs)) ∧ KR fs m', rt := fun _ _ => False } m) : FnOk B.P B.w B.K B.mg B.base (L2.CX B.P B.w) (k + 1) f fd ps (spI M B.K C n F) := by
  refine Fn.okX S (fun vs H Q E q => q.1.trans hn) (fun cdv A outer s H vs Q E hr q => ?_)
  obtain ⟨hl, a, dx, rest, H0, G, m, ds, KR, KE, rfl, hx, hdx, ne, rfl, ok, r, hF, po, px⟩ := q
  refine ⟨_, pss_wp, ?_⟩
  have ok1 : Ok M G H0 G (L2.upd H0 dx (.own a)) m := ok.allocM hdx
  have hx1 : (L2.upd H0 dx (.own a)) a = none := by rw [upd_ne (Ne.symm ne)]; exact hx
  have ok2 := ok1.trans (ok1.allocM (o := .ins C dx []) hx1)
  have nX0 : ¬ M.X H0 a := fun z => by obtain ⟨u, e⟩ := M.there _ _ _ ok.inv z; rw [hx] at e; cases e
  have nX1 : ¬ M.X (L2.upd H0 dx (.own a)) a := fun z => by obtain ⟨u, e⟩ := M.there _ _ _ ok1.inv z; rw [hx1] at e; cases e
  have gA : G a = none := by
    cases e : G a with
    | none => rfl
    | some u => rw [ok.sub _ _ e] at hx; cases hx
  have nw : New B.K M H0 G (L2.upd (L2.upd H0 dx (.own a)) a (.ins C dx [])) a (.obj C []) := ⟨gA, .inl hx, fun z => nX1 (X_keep ok1 nX1 _ z), dx, [], upd_same, .nil⟩
  have so0 : SOk B.K M H0 G (L2.upd (L2.upd H0 dx (.own a)) a (.ins C dx [])) (L2.start N (.ref a :: rest)) (startD N (.ref a :: ds)) := sok_startB (.cons (.ref a) r)
  have so1 : SOk B.K M H0 G (L2.upd (L2.upd H0 dx (.own a)) a (.ins C dx [])) (L2.start N (.ref a :: rest)) ((startD N (.ref a :: ds)).set 0 (.mm (some a) (.obj C []))) := by
    have hs0 : (L2.start N (.ref a :: rest)).set 0 (some (.ref a)) = L2.start N (.ref a :: rest) := rfl
    refine ⟨?_, fun i j b mi mj ei ej => ?_⟩
    · have := paired_set (F := RelSl B.K M H0 G (L2.upd (L2.upd H0 dx (.own a)) a (.ins C dx []))) (x := some (.ref a)) (y := .mm (some a) (.obj C [])) ⟨a, rfl, fun y e => Option.some.inj e, nw.g, nw.h0, nw.nx, nw.r⟩ 0 so0.rel
      rw [hs0] at this
      exact this
    · have w : ∀ i, Mt ((startD N (.ref a :: ds)).set 0 (.mm (some a) (.obj C []))) i → i = 0 := fun i ⟨q, d, hd⟩ => by
        by_cases z : 0 = i
        · exact z.symm
        · rw [List.getElem?_set_ne z] at hd; exact absurd ⟨q, d, hd⟩ start_noM
      rw [w i mi, w j mj]
  refine h (cxOf (L2.CX B.P B.w) B.P B.w B.K B.mg B.base N qual (defScope st) f cdv A outer s _ E) ds KR KE m a ⟨cdv, A, outer, s, _, E, rfl⟩ ⟨rfl, rfl, S.nd, rfl⟩ hr (by have := r.length; simp at hl; omega) hF G H0 G _ (L2.start N (.ref a :: rest)) (fun cls d _ H => E cls d H) _ ok2 so1 ⟨takes_of rfl rfl rfl rfl, fun C' fs d σ sl m' G' H' q o _ x => px C' fs d m' G' H' q o x⟩ ⟨?_, ?_, ?_, ?_, ?_⟩
  · rintro σ sl m' G' H' ⟨fs, e, q⟩ o so
    obtain ⟨u, e1, b, rfl, zz, g, h0, nx, rm⟩ := paired_get so.rel e
    cases zz a rfl
    exact po fs m' G' H' q o ⟨g, h0, nx, rm⟩
  · exact fun _ _ _ _ _ z => z.elim
  · exact fun _ _ _ _ _ z => z.elim
  · exact fun _ _ _ _ _ z => z.elim
  · exact fun _ _ _ _ _ z => z.elim
end
end OZ

namespace OS
open PySem L2
/-! ### an own error with one field -/
/-- what the head knows of the class of an error at C, its __init__ at fI -/
structure ErrC (K : PySem.W.Frag) (mg : Str → Option Value) (x : Str) (C fI : Addr) (fld : Str) : Prop where
  mg : mg x = some (.ref C)
  ox : OexC K C
  iC : PySem.W.findIn K (.ref C) "__init__" = some (some (.ref fI))
  tI : PySem.W.typeIn K (.ref fI) = some (.type "function")
  no : PySem.W.findIn K (.ref C) fld = some none
  xf : XfC K C
  te : PySem.W.exmOne K (.ref C) (.ref C) = some true
/-- its __init__(self, y) -/
def spE (K : PySem.W.Frag) (C : Addr) (fld : Str) : Sp := fun vs H Q _ => ∃ (a : Addr) (y : V), vs = [.ref a, y] ∧ H a = some (exo a C none) ∧
  ∀ dx, H dx = none → dx ≠ a → Q .non (L2.upd (L2.upd H dx (exd dx [(fld, y)])) a (exo a C (some dx)))
/-- a made error's end: the heap has got its dict and nothing else -/
theorem made_heap {H : Hp} {a d : Addr} {fs : List (Str × V)} {o1 o2 : HO} (na : H a = none) (hd : d ≠ a) : ∀ b, (L2.upd (L2.del (L2.upd (L2.upd (L2.upd H a o1) d (exd d fs)) a o2) a) d (.xd fs)) b = (L2.upd H d (.xd fs)) b := by
  intro b
  by_cases h1 : b = d
  · rw [h1, upd_same, upd_same]
  · rw [upd_ne h1, upd_ne h1]
    by_cases h2 : b = a
    · rw [h2, del_same, na]
    · rw [del_ne h2, upd_ne h2, upd_ne h1, upd_ne h2]
end OS

/-! ### own errors, try -/
namespace OZ
open PySem L2 PySem.Spec PyProof.Rows
/-- an own error of one field -/
structure ErrG (B : Bd) (k : Nat) (x : Str) (C : Addr) (fld : Str) : Prop where
  ex : ∃ (fI : Addr) (fd : FuncData) (ps : List Str), OS.ErrC B.K B.mg x C fI fld ∧ FnOk B.P B.w B.K B.mg B.base CX0 k fI fd ps (OS.spE B.K C fld) ∧ Binds B.K fd ps []
theorem errInit {P : Program} {w : World} {K : PySem.W.Frag} {mg : Str → Option Value} {base : Heap} {x fld qual : Str} {st : Stmt} {f fI C : Addr} {fd : FuncData} {p1 p2 p3 p4 : Pos} (F : Fun K "__init__" qual st f fd) (S : FnScope ["self", fld] ["self", fld] (defScope st))
    (hb : defBody st = [.Assign [.Attribute (.Name "self" p1) fld p2] (.Name fld p3) p4]) (hd : (fld == ("__debug__" : Str)) = false) (hcd : (fld == ("__classdict__" : Str)) = false) (T : OS.ErrC K mg x C fI fld) : FnOk P w K mg base CX0 1 f fd ["self", fld] (OS.spE K C fld) := by
  refine F.ok S (fun vs H Q E h => ?_) (fun cdv A outer s H vs Q E hr h => ?_)
  · obtain ⟨a, y, rfl, _⟩ := h
    rfl
  · obtain ⟨a, y, rfl, ha, k⟩ := h
    rw [hb]
    refine ⟨_, pss_one (ps_ost (pe_var (i := 0) rfl ((S.par "self" (List.Mem.head _)).elim (fun z => .inl z) (fun z => .inr (.inl z)))) (pe_var (i := 1) rfl ((S.par fld (List.Mem.tail _ (List.Mem.head _))).elim (fun z => .inl z) (fun z => .inr (.inl z))) hd hcd)), ?_⟩
    exact ⟨_, rfl, _, rfl, a, C, rfl, T.ox, T.no, .inl ⟨ha, fun dx n ne => k dx n ne⟩⟩
/-- the suite that handles the error at a -/
structure SuX (X : Cx) (C a dd : Addr) : Prop where
  ex : ∃ (X0 : Cx) (oe : Obj) (pn : List (Addr × Obj)), X = X0.suite a ((a, oe) :: pn) ∧ Zc (.ref C) (some dd) oe ∧ ∃ vs, oe.data = .fields vs
section
variable {M : Mode} {X : Cx} {KE : Kx} {KS : Ks} {a e o : Expr} {es : List Expr} {sl : List Sl} {D : Kn} {P : Da → Nat → Prop} {m j k n : Nat} {pos p p2 apos spos : Pos} {fld x : Str} {C : Addr} {N : List Str} {sc : Scope} {B : Bd}
/-- raise x(e) -/
theorem st1_raise {rpos : Pos} (cx : Ctx X N sc B) (c : ErrG B k x C fld) (hr : Room j X.A) (h : EvD M X (KS sl) e sl (fun d m1 => KS sl C [(fld, d)] m1) m) (hk : k + 1 ≤ j := by with_unfolding_all decide) (hg : GlS sc x := by with_unfolding_all rfl) (hc : X.calm = true := by with_unfolding_all rfl)
    (he : starEach (e :: []) X.env = (false, eval e X.env) :: starEach [] X.env := by with_unfolding_all rfl) (hdb : (x == ("__debug__" : Str)) = false := by with_unfolding_all decide) (hpl : (backTo pos (starEach [] X.env)).any (·.1) = false := by with_unfolding_all rfl) : St1 M X KS (.Raise (some (.Call (.Name x p) [e] [] pos)) none rpos) sl D m := by
  have eb := cx.b
  subst eb
  obtain ⟨fI, fd, ps, U, Fo, hb⟩ := c.ex
  intro G0 H0 G H σ W E ok so wi po
  refine wpS.of (ps_raise hc (wi.at ok so).tk (pmk_oex U.ox U.iC U.tI Fo (hr.mono hk) hb .nil pass0 (cx.gl hg) U.mg (pa_cons pe_wp pa_nil he) hdb he hpl)) ?_
  refine h G0 H0 G H σ W _ ok so (wi.at ok so) fun v d m1 G1 H1 q o1 r => ⟨by show 1 ≤ 1000; decide, fun ad na => ⟨ad, v, rfl, upd_same, fun dx ndx ne => ⟨rfl, dx, [(fld, v)], ?_, ?_, ?_, ?_⟩⟩⟩
  · rw [upd_same]
  · rw [upd_ne ne, upd_same]
  · rw [upd_ne ne] at ndx; exact ndx
  · have hdx : H1 dx = none := by rw [upd_ne ne] at ndx; exact ndx
    have e : (L2.upd (L2.del (L2.upd (L2.upd (L2.upd H1 ad (exo ad C none)) dx (exd dx [(fld, v)])) ad (exo ad C (some dx))) ad) dx (.xd [(fld, v)])) = L2.upd H1 dx (.xd [(fld, v)]) := funext (OS.made_heap na ne)
    rw [e]
    have al := o1.here.alloc (o := .xd [(fld, v)]) hdx
    exact (wi.at ok so).ex C [(fld, d)] (some dx) m1 _ _ q (o1.trans al) (.inr ⟨dx, [(fld, v)], rfl, upd_same, .cons (r.mono al.le) .nil⟩)
/-- e.f of the error that is handled -/
theorem evd_xf {a dd : Addr} {n : Str} (su : SuX X C a dd) (T : XfC X.K C) (hno : PySem.W.findIn X.K (.ref C) n = some none) (h : EvD M X KE e sl (fun d m1 => ∃ fs v, d = .exc a dd fs ∧ fs.lookup n = some v ∧ P v m1) m) (hb : attributeBase e n X.env (eval e X.env) = eval e X.env := by with_unfolding_all rfl) : EvD M X KE (.Attribute e n pos) sl P m := by
  obtain ⟨X0, oe, pn, rfl, hz, hf⟩ := su.ex
  exact fun G0 H0 G H σ W Q ok so wi po => wpE.of (pe_xf (X := X0) T hno hz hf pe_wp hb) (h G0 H0 G H σ W _ ok so wi fun v d m' G' H' q o r => by
    obtain ⟨fs, w, rfl, l, q⟩ := q
    cases r with
    | exc g rf =>
      obtain ⟨u, hu, ru⟩ := rf.look l
      exact ⟨rfl, rfl, dd, _, u, rfl, o.sub _ _ g, hu, po u w m' G' H' q o ru⟩)
/-- the wish of a try for what its body raises -/
def TryK (M : Mode) (X : Cx) (KS : Ks) (C : Addr) (i : Nat) (suite : List Stmt) (D : Kn) : Ks := fun sl C' fs m' =>
  ∃ b, PySem.W.exmOne X.K (.ref C') (.ref C) = some b ∧
    (b = true → (∀ a oe dd pn, SuX (X.suite a ((a, oe) :: pn)) C' a dd → StD M (X.suite a ((a, oe) :: pn)) (fun _ => K0) suite (sl.set i (.v (.exc a dd fs))) { D with nx := fun sl' m' => D.nx (sl'.set i .un) m', bk := fun sl' m' => D.bk (sl'.set i .un) m', ct := fun sl' m' => D.ct (sl'.set i .un) m' } m') ∧
      (fs = [] → ∀ a oe pn, StD M (X.suite a ((a, oe) :: pn)) (fun _ => K0) suite (sl.set i .un) { D with nx := fun sl' m' => D.nx (sl'.set i .un) m', bk := fun sl' m' => D.bk (sl'.set i .un) m', ct := fun sl' m' => D.ct (sl'.set i .un) m' } m')) ∧
    (b = false → KS sl C' fs m')
theorem ctx_suite (cx : Ctx X N sc B) (a : Addr) (pn : List (Addr × Obj)) : Ctx (X.suite a pn) N sc B := ⟨cx.n, cx.s, cx.nd, cx.b⟩
theorem ctx_tr (cx : Ctx X N sc B) (pn : List (Addr × Obj)) (xe : Value → Shared → Prop) : Ctx (X.tr pn xe) N sc B := ⟨cx.n, cx.s, cx.nd, cx.b⟩
/-- try: .. except x as n: .. -/
theorem st1_try {i : Nat} {nm : Str} {np hpos : Pos} {body suite : List Stmt} {b₀ : Stmt} (cx : Ctx X N sc B) (hm : B.mg x = some (.ref C)) (hi : IdxAt N nm i)
    (h : ∀ pn xe, PassesOwn (model X.prog X.w) X.A X.env xe → StD M (X.tr pn xe) (TryK M X KS C i (b₀ :: suite) D) body sl D m) (hl : sc.names.lookup nm = some .local := by with_unfolding_all rfl)
    (hs : X.stack = X.env :: X.outer := by with_unfolding_all rfl) (hf : X.env.frame = some X.env.locals := by with_unfolding_all rfl) (hg : GlS sc x := by with_unfolding_all rfl) (hdb : (x == ("__debug__" : Str)) = false := by with_unfolding_all decide) :
    St1 M X KS (.Try body [.ExceptHandler (some (.Name x np)) (some nm) (b₀ :: suite) hpos] [] [] pos) sl D m := by
  intro G0 H0 G H σ W E ok so wi po
  have hln : X.env.kindOf nm = some .local := by unfold Env.kindOf; rw [cx.s]; exact hl
  refine wpS.of (ps_try_as (i := i) (Wout := W) (tb := fun W' E σ H => ∀ pn xe, Takes (X.tr pn xe) W' → PassesOwn (model X.prog X.w) X.A X.env xe → wpSs (X.tr pn xe) body E σ H)
    (ts := fun a cls d E σ H => ∀ oe pn, Zc cls d oe → (∃ vs, oe.data = .fields vs) → wpSs (X.suite a ((a, oe) :: pn)) (b₀ :: suite) E σ H)
    hs hf cx.nd (by rw [cx.n]; exact hi.at) hln ⟨cx.gl hg, hdb, .inl (cx.mg hm)⟩ wi.tk (fun W' pn xe tk ps => ⟨fun pins s σ H E I q => q pn xe tk ps pins s I⟩) (fun a oe cls d pn hz hf => ⟨fun pins s σ H E I q => q oe pn hz hf pins s I⟩)) ?_
  intro pn xe tk ps
  refine h pn xe ps G0 H0 G H σ _ E ok so ⟨tk, ?_⟩ po
  rintro C' fs d σ' sl' m' G' H' ⟨b, hb, h1, h2⟩ ok' so' xr
  refine ⟨b, hb, fun hb1 a ha => ?_, fun hb2 => wi.ex C' fs d σ' sl' m' G' H' (h2 hb2) ok' so' xr⟩
  obtain ⟨hA, hB⟩ := h1 hb1
  have post : PostS M X.K G0 H0 { D with nx := fun sl' m' => D.nx (sl'.set i .un) m', bk := fun sl' m' => D.bk (sl'.set i .un) m', ct := fun sl' m' => D.ct (sl'.set i .un) m' } { nx := fun σ' H' => E.nx (σ'.set i none) H', rt := E.rt, bk := fun σ' H' => E.bk (σ'.set i none) H', ct := fun σ' H' => E.ct (σ'.set i none) H' } :=
    ⟨fun σ sl m G H q ok so => po.nx _ _ m G H q ok (so.setN i), po.rt, fun σ sl m G H q ok so => po.bk _ _ m G H q ok (so.setN i), fun σ sl m G H q ok so => po.ct _ _ m G H q ok (so.setN i), po.rn⟩
  intro oe pn2 hz hfl
  rcases xr with ⟨e1, e2⟩ | ⟨dd, vs, e1, g, rf⟩
  · exact hB e1 a oe pn2 G0 H0 G' H' _ (fun _ _ _ _ => False) _ ok' (so'.setN i) ⟨takes0, fun _ _ _ _ _ _ _ _ z => z.elim⟩ post
  · subst e1
    exact hA a oe dd pn2 ⟨X, oe, pn2, rfl, hz, hfl⟩ G0 H0 G' H' _ (fun _ _ _ _ => False) _ ok' (so'.setV i (.exc g rf)) ⟨takes0, fun _ _ _ _ _ _ _ _ z => z.elim⟩ post
end
end OZ

/-! ### star targets -/
namespace OZ
open PySem L2 PySem.Spec PyProof.Rows
section
variable {prog : Program} {w : World} {A : Around} {E : Value → Shared → Prop} {s : Shared}
theorem unp_star {l : Addr} {items : Array Value} {i : Nat} {Q : List Value → Shared → Prop} (hl : IsTup s.heap l items ∨ s.heap.IsList l items) (hh : A.handled = none) (hi : i ≤ items.size) (hz : items.size ≤ sizeLine)
    (h : ∀ (h' : Heap) (tk : Nat), (∀ b o, s.heap.get? b = some o → h'.get? b = some o) → Q (items.toList.take i ++ [.ref h'.objs.size]) { s with heap := h'.push { cls := .type "list", data := .seq (items.toList.drop i).toArray }, toks := tk }) : wpAny (model prog w) A (unpackItems (.ref l) (i + 1) (some i)) Q E s := by
  have hlt : l ≠ s.heap.objs.size := by
    rcases hl with hl | hl <;> (obtain ⟨o, ho, _⟩ := hl; exact Nat.ne_of_lt (Heap.lt_size ho))
  have fin : ∀ h₁ : Heap, Heap.ExtBut s.heap.objs.size s.heap h₁ → wpAny (model prog w) A (collect (.ref s.heap.objs.size)) (fun rest s2 => rest = items.toList.drop i ∧ ∃ h₂ tk, (∀ b o, s.heap.get? b = some o → h₂.get? b = some o) ∧ s2 = { s with heap := h₂, toks := tk }) E { s with heap := h₁ } →
      wpAny (model prog w) A ((do
        let first := items.toList.take i
        if first.length < i then
          rule "unpack.star.too-few-before"
          raiseError "ValueError" s!"not enough values to unpack (expected at least {i + 1 - 1}, got {first.length})"
        let rest ← holding first (collect (.ref s.heap.objs.size))
        let after := i + 1 - 1 - i
        if rest.length < after then
          rule "unpack.star.too-few"
          raiseError "ValueError" s!"not enough values to unpack (expected at least {i + 1 - 1}, got {i + rest.length})"
        let mid := rest.length - after
        return first ++ [← newList (rest.take mid)] ++ rest.drop mid) : Sem (List Value)) Q E { s with heap := h₁ } := by
    intro h₁ hx hc
    have hfl : (items.toList.take i).length = i := by rw [List.length_take, Array.length_toList]; omega
    dsimp only
    rw [if_neg (show ¬ ((items.toList.take i).length < i) by omega)]
    refine wpAny_bind (wpAny_holding (wpAny_mono hc (fun rest s2 hr => ?_) fun _ _ z => z))
    obtain ⟨rfl, h₂, tk, hk, rfl⟩ := hr
    have ha : i + 1 - 1 - i = 0 := by omega
    rw [ha, if_neg (Nat.not_lt_zero _), Nat.sub_zero, List.take_length, List.drop_length]
    refine wpAny_bind (wpAny_newList ?_ (by rw [List.length_drop, Array.length_toList]; omega))
    refine wpAny_pure ?_
    rw [List.append_nil]
    exact h h₂ tk hk
  unfold unpackItems
  refine wpAny_bind ?_
  unfold notIterableAtAll
  rcases hl with hl | hl
  · refine wpAny_bind (wpAny_specialOf hl.typeIs slot_tuple_iter.lookup (wpAny_pure ?_))
    simp only [Bool.false_eq_true, if_false]
    refine wpAny_bind (wpAny_holding (iter_tuple hl ?_))
    refine wpAny_bind (wpAny_holding (draw_tuple hlt i 0 _ _ ⟨_, Heap.get?_push_size _ rfl, rfl, rfl⟩ (hl.push _) (by omega) fun h₁ hit₁ hs₁ => ?_))
    rw [Nat.zero_add] at hit₁
    rw [List.drop_zero]
    have hl₁ : IsTup h₁ l items := (hl.push _).extBut hs₁.extBut hlt
    have hit₁' := hit₁
    obtain ⟨oi, hoi, _⟩ := hit₁'
    have hl₁' := hl₁
    obtain ⟨ol, hol, _⟩ := hl₁'
    refine fin h₁ (fun b o hb e => hs₁.extBut b o hb (Heap.get?_push_of_some _ e)) ?_
    exact PySem.W.kun_collect (s := { s with heap := h₁ }) (T := "tuple_iterator") (.inr (.inr (.inr rfl))) (Walks.tuple (A := A.in1) hh s.heap.objs.size l hlt items) (fun j u st => st.1.typeIs) (k := i) hi ⟨hit₁, hl₁⟩ (Heap.lt_size hoi) (Heap.lt_size hol)
      (fun h₂ tk hk => ⟨rfl, h₂, tk, fun b o e => hk b o (Nat.ne_of_lt (Heap.lt_size e)) (hs₁.extBut b o (Nat.ne_of_lt (Heap.lt_size e)) (Heap.get?_push_of_some _ e)), rfl⟩) hz
  · refine wpAny_bind (wpAny_specialOf hl.typeIs slot_list_iter.lookup (wpAny_pure ?_))
    simp only [Bool.false_eq_true, if_false]
    refine wpAny_bind (wpAny_holding (wpAny_pyIter_list hl ?_))
    refine wpAny_bind (wpAny_holding (PySem.W.kun_draw hlt i 0 _ _ ⟨_, Heap.get?_push_size _ rfl, rfl, rfl⟩ (hl.push _) (by omega) fun h₁ hit₁ hs₁ => ?_))
    rw [Nat.zero_add] at hit₁
    rw [List.drop_zero]
    have hl₁ : h₁.IsList l items := (hl.push _).extBut hs₁.extBut hlt
    have hit₁' := hit₁
    obtain ⟨oi, hoi, _⟩ := hit₁'
    have hl₁' := hl₁
    obtain ⟨ol, hol, _⟩ := hl₁'
    refine fin h₁ (fun b o hb e => hs₁.extBut b o hb (Heap.get?_push_of_some _ e)) ?_
    exact PySem.W.kun_collect (s := { s with heap := h₁ }) (T := "list_iterator") (.inr (.inr (.inl rfl))) (Walks.list (A := A.in1) hh s.heap.objs.size l hlt items) (fun j u st => st.1.typeIs) (k := i) hi ⟨hit₁, hl₁⟩ (Heap.lt_size hoi) (Heap.lt_size hol)
      (fun h₂ tk hk => ⟨rfl, h₂, tk, fun b o e => hk b o (Nat.ne_of_lt (Heap.lt_size e)) (hs₁.extBut b o (Nat.ne_of_lt (Heap.lt_size e)) (Heap.get?_push_of_some _ e)), rfl⟩) hz
end
section
variable {X : Cx} {pos p : Pos}
theorem pgs_star {e : Expr} {g : TG} (h1 : PG X e g) : PGs X [.Starred e p] (gCons g gNil) := by
  refine ⟨fun pins s σ H vs us Q I r h => ?_⟩
  obtain ⟨v, vr, rfl, h⟩ := h
  cases r with
  | cons r rr =>
    show wpAny _ _ (assignInOrder [assign e X.env] _) _ _ _
    refine assignInOrder_cons (thn (h1.run pins s σ H _ _ _ I r h) fun _ s1 ⟨σ1, H1, I1, q1⟩ => ?_)
    obtain ⟨rfl, q1⟩ := q1
    cases rr
    exact assignInOrder_nil ⟨σ1, H1, I1, q1⟩
/-- (a, .., *z) = a tuple or a list -/
def gStar (K : PySem.W.Frag) (n : Nat) (t : TGs) : TG := fun v σ H Q => ∃ a xs, v = .ref a ∧ (SqT K H a xs ∨ SqL K H a xs) ∧ n ≤ xs.length ∧ ∀ q, H q = none → t (xs.take n ++ [.ref q]) σ (L2.upd H q (.lst (xs.drop n))) Q
theorem pg_star {es : List Expr} {k n : Nat} {t : TGs} (hc : X.calm = true) (h : PGs X es t) (hn : (assignEach es X.env).length = n + 1 := by with_unfolding_all rfl) (hst : (assignEach es X.env).findIdx? (·.1) = some n := by with_unfolding_all rfl) : PG X (.Tuple es k pos) (gStar X.K n t) := by
  refine ⟨fun pins s σ H v u Q I r hw => ?_⟩
  obtain ⟨a, xs, rfl, hq, hl, hw⟩ := hw
  cases r
  obtain ⟨its, rv, ht, hz⟩ : ∃ its, Vals xs its ∧ (IsTup s.heap a its.toArray ∨ s.heap.IsList a its.toArray) ∧ xs.length ≤ sizeLine := by
    rcases hq with hq | hq
    · obtain ⟨its, rv, ht, hz⟩ := I.tuple hq; exact ⟨its, rv, .inl ht, hz⟩
    · obtain ⟨its, rv, ht, hz⟩ := I.list hq; exact ⟨its, rv, .inr ht.isList, hz⟩
  have hlen := rv.length
  rw [assign_Tuple]
  refine wpAny_bind (wpAny_standAt ?_)
  unfold unpack
  rw [hn, hst]
  refine wpAny_bind (wpAny_holding (unp_star ht (I.ok.hd hc) (by simp; omega) (by simp; omega) fun h' tk hk => ?_))
  have I1 : Inv X pins σ H { s with heap := h', toks := tk } := I.kept (t' := tk) hk
  have hf : H h'.objs.size = none := I1.hok.fresh (Nat.le_refl _)
  have I2 : Inv X pins σ (L2.upd H h'.objs.size (.lst (xs.drop n))) { s with heap := h'.push { cls := .type "list", data := .seq (its.drop n).toArray }, toks := tk } := by
    refine I1.laid (t' := tk) (fun b u e => Heap.get?_push_of_some _ e) (Nat.le_refl _) ?_
    exact ⟨by rw [List.length_drop]; omega, its.drop n, 0, rv.drop n, Heap.get?_push_size _ rfl⟩
  refine h.run pins _ σ _ (xs.take n ++ [.ref h'.objs.size]) _ Q I2 ?_ (hw _ hf)
  have : its.toArray.toList = its := by simp
  rw [this]
  exact (rv.take n).append (.cons rfl .nil)
end
section
variable {M : Mode} {X : Cx} {KS : Ks} {e : Expr} {sl : List Sl} {D : Kn} {m : Nat} {x y z : Str} {N : List Str} {sc : Scope} {B : Bd} {kk : Nat} {p1 p2 p3 p4 tpos pos : Pos}
/-- x, *z = e -/
theorem st1_star1 {i1 i2 : Nat} (cx : Ctx X N sc B) (hx : IdxAt N x i1) (hz : IdxAt N z i2)
    (h : EvD M X (KS sl) e sl (fun d m1 => ∃ d1 ds, (d = .tup (d1 :: ds) ∨ d = .lst (d1 :: ds)) ∧ ∃ j1 sl1, EnvSet N sl x j1 (.v d1) sl1 ∧ ∃ j2 sl2, EnvSet N sl1 z j2 (.v (.lst ds)) sl2 ∧ D.nx sl2 m1) m)
    (lx : sc.names.lookup x = some .local := by with_unfolding_all rfl) (lz : sc.names.lookup z = some .local := by with_unfolding_all rfl) (hc : X.calm = true := by with_unfolding_all rfl)
    (hs : swapsWithSole [.Tuple [.Name x p1, .Starred (.Name z p2) p3] kk tpos] e pos.line X.env = pure false := by with_unfolding_all rfl) (hw : swappedStores [.Tuple [.Name x p1, .Starred (.Name z p2) p3] kk tpos] e X.env = pure none := by with_unfolding_all rfl) :
    St1 M X KS (.Assign [.Tuple [.Name x p1, .Starred (.Name z p2) p3] kk tpos] e pos) sl D m := by
  intro G0 H0 G H σ W E ok so wi po
  refine wpS.of (ps_asg pe_wp (pg_star (n := 1) hc (pgs_cons (pg_name cx.nd (by rw [cx.n]; exact hx.at) (.inl (by rw [cx.s]; exact lx)) (.inr (by rw [cx.s]; exact lx))) (pgs_star (pg_name cx.nd (by rw [cx.n]; exact hz.at) (.inl (by rw [cx.s]; exact lz)) (.inr (by rw [cx.s]; exact lz)))))) hs hw) ?_
  refine h G0 H0 G H σ W _ ok so (wi.at ok so) fun v d m1 G1 H1 ⟨d1, ds, hd, j1, sl1, e1, j2, sl2, e2, nx⟩ o1 r => ?_
  have ok1 := ok.trans o1
  obtain ⟨a, vs, rfl, sq, rs⟩ : ∃ a vs, v = .ref a ∧ (SqT X.K H1 a vs ∨ SqL X.K H1 a vs) ∧ Reps X.K G1 vs (d1 :: ds) := by
    rcases hd with rfl | rfl
    · obtain ⟨a, vs, rfl, q, t⟩ := r.tup_inv; exact ⟨a, vs, rfl, .inl (sqT_same o1.sub q), t⟩
    · obtain ⟨a, vs, rfl, q, t⟩ := r.lst_inv; exact ⟨a, vs, rfl, .inr (sq_l (o1.sub _ _ q)), t⟩
  cases rs with
  | @cons v1 _ vs1 _ r1 rt =>
    refine ⟨a, _, rfl, sq, by simp, fun q hq => ⟨_, _, rfl, _, _, rfl, rfl, ?_⟩⟩
    have al := ok1.here.alloc (o := .lst vs1) hq
    refine po.nx _ _ m1 _ _ nx (ok1.trans al) ?_
    rw [envset_at (cx.n ▸ cx.nd) hz e2, envset_at (cx.n ▸ cx.nd) hx e1]
    exact (((so.step o1).step al).setV i1 (r1.mono al.le)).setV i2 (.lst upd_same (rt.mono al.le))
/-- x, y, *z = e -/
theorem st1_star2 {i1 i2 i3 : Nat} (cx : Ctx X N sc B) (hx : IdxAt N x i1) (hy : IdxAt N y i2) (hz : IdxAt N z i3)
    (h : EvD M X (KS sl) e sl (fun d m1 => ∃ d1 d2 ds, (d = .tup (d1 :: d2 :: ds) ∨ d = .lst (d1 :: d2 :: ds)) ∧ ∃ j1 sl1, EnvSet N sl x j1 (.v d1) sl1 ∧ ∃ j2 sl2, EnvSet N sl1 y j2 (.v d2) sl2 ∧ ∃ j3 sl3, EnvSet N sl2 z j3 (.v (.lst ds)) sl3 ∧ D.nx sl3 m1) m)
    (lx : sc.names.lookup x = some .local := by with_unfolding_all rfl) (ly : sc.names.lookup y = some .local := by with_unfolding_all rfl) (lz : sc.names.lookup z = some .local := by with_unfolding_all rfl) (hc : X.calm = true := by with_unfolding_all rfl)
    (hs : swapsWithSole [.Tuple [.Name x p1, .Name y p4, .Starred (.Name z p2) p3] kk tpos] e pos.line X.env = pure false := by with_unfolding_all rfl) (hw : swappedStores [.Tuple [.Name x p1, .Name y p4, .Starred (.Name z p2) p3] kk tpos] e X.env = pure none := by with_unfolding_all rfl) :
    St1 M X KS (.Assign [.Tuple [.Name x p1, .Name y p4, .Starred (.Name z p2) p3] kk tpos] e pos) sl D m := by
  intro G0 H0 G H σ W E ok so wi po
  refine wpS.of (ps_asg pe_wp (pg_star (n := 2) hc (pgs_cons (pg_name cx.nd (by rw [cx.n]; exact hx.at) (.inl (by rw [cx.s]; exact lx)) (.inr (by rw [cx.s]; exact lx))) (pgs_cons (pg_name cx.nd (by rw [cx.n]; exact hy.at) (.inl (by rw [cx.s]; exact ly)) (.inr (by rw [cx.s]; exact ly))) (pgs_star (pg_name cx.nd (by rw [cx.n]; exact hz.at) (.inl (by rw [cx.s]; exact lz)) (.inr (by rw [cx.s]; exact lz))))))) hs hw) ?_
  refine h G0 H0 G H σ W _ ok so (wi.at ok so) fun v d m1 G1 H1 ⟨d1, d2, ds, hd, j1, sl1, e1, j2, sl2, e2, j3, sl3, e3, nx⟩ o1 r => ?_
  have ok1 := ok.trans o1
  obtain ⟨a, vs, rfl, sq, rs⟩ : ∃ a vs, v = .ref a ∧ (SqT X.K H1 a vs ∨ SqL X.K H1 a vs) ∧ Reps X.K G1 vs (d1 :: d2 :: ds) := by
    rcases hd with rfl | rfl
    · obtain ⟨a, vs, rfl, q, t⟩ := r.tup_inv; exact ⟨a, vs, rfl, .inl (sqT_same o1.sub q), t⟩
    · obtain ⟨a, vs, rfl, q, t⟩ := r.lst_inv; exact ⟨a, vs, rfl, .inr (sq_l (o1.sub _ _ q)), t⟩
  cases rs with
  | cons r1 rt =>
    cases rt with
    | @cons v2 _ vs2 _ r2 rt =>
      refine ⟨a, _, rfl, sq, by simp, fun q hq => ⟨_, _, rfl, _, _, rfl, _, _, rfl, rfl, ?_⟩⟩
      have al := ok1.here.alloc (o := .lst vs2) hq
      refine po.nx _ _ m1 _ _ nx (ok1.trans al) ?_
      rw [envset_at (cx.n ▸ cx.nd) hz e3, envset_at (cx.n ▸ cx.nd) hy e2, envset_at (cx.n ▸ cx.nd) hx e1]
      exact ((((so.step o1).step al).setV i1 (r1.mono al.le)).setV i2 (r2.mono al.le)).setV i3 (.lst upd_same (rt.mono al.le))
/-- a, b = e -/
theorem st1_tgt {tg : Expr} (cx : Ctx X N sc B) (h : EvD M X (KS sl) e sl (fun d m1 => ∃ sl' is, Tg X N sc tg d sl sl' is ∧ D.nx sl' m1) m) (hc : X.calm = true := by with_unfolding_all rfl)
    (hs : swapsWithSole [tg] e pos.line X.env = pure false := by with_unfolding_all rfl) (hw : swappedStores [tg] e X.env = pure none := by with_unfolding_all rfl) (h1 : (assignEach [tg] X.env).map (·.2) = [assign tg X.env] := by with_unfolding_all rfl) : St1 M X KS (.Assign [tg] e pos) sl D m := by
  intro G0 H0 G H σ W E ok so wi po
  refine wpS.of (ps_asg pe_wp (pg_wp (tg := tg)) hs hw h1) ?_
  refine h G0 H0 G H σ W _ ok so (wi.at ok so) fun v d m1 G1 H1 ⟨sl', is, tg', nx⟩ o1 r => ?_
  exact tg'.run cx hc (ok.trans o1) (so.step o1) r fun σ' so' _ => po.nx σ' sl' m1 G1 H1 nx (ok.trans o1) so'
end
end OZ

namespace OS
open PySem L2 PySem.Spec PyProof.Rows
section
variable {X : Cx} {CX : CXT} {n : Nat} {f C : Addr} {fd : FuncData} {ps : List Str} {sp : Sp} {E : XK}
/-- a def run by the machine itself (an operator of an own class), somewhere below the running body -/
theorem run_at {A : Around} (F : FnOk X.prog X.w X.K X.mg X.base CX n f fd ps sp) (sb : Sub X n A) (hb : Binds X.K fd ps []) (hx : Passes CX X E) {pins : List (Addr × Obj)} {σ : L2.St} {H : Hp} {s : Shared} {vs : List V} {us : List Value} {Q : VK} {R : Value → Shared → Prop}
    (I : Inv X pins σ H s) (r : Vals vs us) (h : sp vs H Q E) (k : ∀ v u H' s', Inv X pins σ H' s' → RelV v u → Q v H' → R u s') : wpAny (model X.prog X.w) A (call (.ref f) us) R X.xe s := by
  have e0 : Env0 X.prog X.w X.K X.mg X.base A X.stack s H := by
    have e := I.env0
    exact ⟨by rw [sb.fr]; exact e.frames, e.mod, e.bs, e.bsz, e.funs, e.frf, e.hok, e.bare⟩
  have hl := F.len _ _ _ _ h
  refine wpAny_call (codeAny_mono (F.run A X.stack s H ⟨us, []⟩ us vs _ E sb.room e0 (by
    have := hb s us I.kIn (by rw [List.append_nil, ← r.length]; exact hl)
    simpa using this) r h) fun r' s' hq => ?_)
  cases r' with
  | error e => exact hx pins σ H s e s' I hq
  | ok fl =>
    cases fl with
    | ret u =>
      obtain ⟨v, H', I', rv, q⟩ := I.after hq
      exact k v u H' s' I' rv q
    | next => exact False.elim hq
    | brk => exact False.elim hq
    | cont => exact False.elim hq
theorem v1 {a : Addr} : Vals [V.ref a] [Value.ref a] := .cons rfl .nil
theorem v2 {a b : Addr} : Vals [V.ref a, V.ref b] [Value.ref a, Value.ref b] := .cons rfl (.cons rfl .nil)
theorem v2i {a : Addr} {i : Int} {t : Tok} : Vals [V.ref a, V.int i] [Value.ref a, Value.int i t] := .cons rfl (.cons ⟨t, rfl⟩ .nil)
theorem notImpl {v : V} {u : Value} {Q : Value → Shared → Prop} {s : Shared} (r : RelV v u) (q : Q u s) : PySem.W.CmpBack Q u s := by
  cases v with
  | non => cases r; exact q
  | bl b => cases r; exact q
  | int i => obtain ⟨t, rfl⟩ := r; exact q
  | str i => obtain ⟨t, rfl⟩ := r; exact q
  | byt i => obtain ⟨t, rfl⟩ := r; exact q
  | flt i => obtain ⟨t, rfl⟩ := r; exact q
  | ref i => cases r; exact q
  | ty i => cases r; exact q
/-- an own method found by name, as the machine asks it -/
structure Own (K : PySem.W.Frag) (C : Addr) (m : Str) (f : Addr) : Prop where
  at_ : PySem.W.findIn K (.ref C) m = some (some (.ref f))
  fn : PySem.W.isFn K (.ref f) = true
/-- one operand, an instance of the class at C -/
def rU1 (C : Addr) (sp : Sp) (E : XK) : V → Hp → VK → Prop := fun x H Q => ∃ a dx fs, x = .ref a ∧ H a = some (.ins C dx fs) ∧ sp [x] H Q E
/-- -x by the own __neg__ -/
theorem un_negO (F : FnOk X.prog X.w X.K X.mg X.base CX n f fd ps sp) (o : Own X.K C "__neg__" f) (hr : Room n X.A) (hb : Binds X.K fd ps []) (hx : Passes CX X E) : UnR X (unaryOp .USub) (rU1 C sp E) := by
  intro pins s σ H x v Q I rx h
  obtain ⟨a, dx, fs, rfl, ha, q⟩ := h
  cases rx
  obtain ⟨mA, J, _⟩ := ins_get I.hok ha
  obtain ⟨od, J, _⟩ := J.look
  obtain ⟨m, hF⟩ := I.fr
  exact PySem.W.ksp_neg hF I.ok.mod.kin J o.at_ o.fn (run_at F ⟨hr, rfl⟩ hb hx I v1 q fun v u H' s' I' rv qv => ⟨v, H', I', rv, qv⟩)
/-- an instance of the class at C on the left, an int on the right -/
def rB1 (C : Addr) (sp : Sp) (E : XK) : R2 := fun x y H Q => ∃ a dx fs i, x = .ref a ∧ y = .int i ∧ H a = some (.ins C dx fs) ∧ sp [x, y] H Q E
theorem op_ownI {op : Operator} {fo ro rc : Option Value} (F : FnOk X.prog X.w X.K X.mg X.base CX n f fd ps sp) (o : Own X.K C (PySem.dunder op.info.2) f) (hc : PySem.W.selfFirst X.K C = true)
    (hrr : PySem.W.findIn X.K (.ref C) (dunderR op.info.2) = some rc) (hp : rc = none ∨ ∃ g : Addr, rc = some (.ref g)) (h1 : PySem.W.findIn X.K (.type "int") (PySem.dunder op.info.2) = some fo) (h2 : PySem.W.findIn X.K (.type "int") (dunderR op.info.2) = some ro)
    (hsub : PySem.W.subIn X.K (.type "int") (.ref C) = some false) (hr : Room n X.A) (hb : Binds X.K fd ps []) (hx : Passes CX X E) : OpR X (binaryOp op) (rB1 C sp E) := by
  intro pins s σ H x y v u Q I rx ry h
  obtain ⟨a, dx, fs, i, rfl, rfl, ha, q⟩ := h
  cases rx
  obtain ⟨t, rfl⟩ := ry
  obtain ⟨mA, J, _⟩ := ins_get I.hok ha
  obtain ⟨od, J, _⟩ := J.look
  obtain ⟨m, hF⟩ := I.fr
  exact PySem.W.ksp_binT (T := "int") hF I.ok.mod.kin J rfl hc o.at_ o.fn hrr hp h1 h2 hsub (run_at F ⟨hr, rfl⟩ hb hx I v2i q fun v u H' s' I' rv qv => notImpl rv ⟨v, H', I', rv, qv⟩)
/-- two instances of the class at C -/
def rB2 (C : Addr) (sp : Sp) (E : XK) : R2 := fun x y H Q => ∃ a dx fs b dy gs, x = .ref a ∧ y = .ref b ∧ H a = some (.ins C dx fs) ∧ H b = some (.ins C dy gs) ∧ sp [x, y] H Q E
theorem op_own2 {op : Operator} (F : FnOk X.prog X.w X.K X.mg X.base CX n f fd ps sp) (o : Own X.K C (PySem.dunder op.info.2) f) (hc : PySem.W.selfFirst X.K C = true)
    (hr : Room n X.A) (hb : Binds X.K fd ps []) (hx : Passes CX X E) : OpR X (binaryOp op) (rB2 C sp E) := by
  intro pins s σ H x y v u Q I rx ry h
  obtain ⟨a, dx, fs, b, dy, gs, rfl, rfl, ha, hb', q⟩ := h
  cases rx
  cases ry
  obtain ⟨mA, J, _⟩ := ins_get I.hok ha
  obtain ⟨mB, J', _⟩ := ins_get I.hok hb'
  obtain ⟨od, J, _⟩ := J.look
  obtain ⟨od', J', _⟩ := J'.look
  obtain ⟨m, hF⟩ := I.fr
  exact PySem.W.binop_K hF I.ok.mod.kin J J'.type hc o.at_ o.fn (run_at F ⟨hr, rfl⟩ hb hx I v2 q fun v u H' s' I' rv qv => notImpl rv ⟨v, H', I', rv, qv⟩)
/-- str(x) by the own __str__ -/
def rStrO (C : Addr) (sp : Sp) (E : XK) : List V → Hp → VK → Prop := fun xs H Q => ∃ a dx fs, xs = [.ref a] ∧ H a = some (.ins C dx fs) ∧ sp xs H (fun v H' => (∃ z, v = .str z) ∧ Q v H') E
theorem call_strO (F : FnOk X.prog X.w X.K X.mg X.base CX n f fd ps sp) (o : Own X.K C "__str__" f) (hr : Room (n + 2) X.A) (hb : Binds X.K fd ps []) (hx : Passes CX X E) : CallR X (.type "str") (rStrO C sp E) := by
  intro pins s σ H xs us Q I r h
  obtain ⟨a, dx, fs, rfl, ha, q⟩ := h
  obtain ⟨u, rfl, ru⟩ := vals1 r
  cases ru
  obtain ⟨mA, J, _⟩ := ins_get I.hok ha
  obtain ⟨od, J, _⟩ := J.look
  have sb : Sub X n X.A.in1.in1 := (Sub.in1 (n := n) (Sub.in1 (n := n + 1) ⟨hr, rfl⟩))
  refine PySem.W.kso_call (by have := sb.room.units0; exact this) I.kIn J o.at_ o.fn (run_at F sb hb hx I v1 q fun v u H' s' I' rv qv => ?_)
  obtain ⟨⟨z, rfl⟩, qv⟩ := qv
  obtain ⟨t, rfl⟩ := id rv
  exact ⟨_, H', I', rv, qv⟩
end
end OS

namespace OS
open PySem L2 PySem.Spec PyProof.Rows
section
variable {X : Cx} {CX : CXT} {n : Nat} {f C : Addr} {fd : FuncData} {ps : List Str} {sp : Sp} {E : XK} {a b : Expr} {ta tb : TE} {pos : Pos}
/-- an instance asked by [..], in, len -/
def rG (C : Addr) (sp : Sp) (E : XK) : R2 := fun x y H Q => ∃ p dx fs, x = .ref p ∧ H p = some (.ins C dx fs) ∧ sp [x, y] H Q E
/-- o[i] by the own __getitem__ -/
theorem pe_getO (F : FnOk X.prog X.w X.K X.mg X.base CX n f fd ps sp) (o : Own X.K C "__getitem__" f) (fi : PySem.W.fnIn X.K f = true) (hr : Room (n + 1) X.A) (hb : Binds X.K fd ps []) (hx : Passes CX X E) (ha : PE X a ta) (hc : PE X b tb)
    (hs : ∀ x i, subscripted b true (.ref x) i = runValue (.builtin "lifetime.subscript" ⟨[.ref x, i], []⟩) := by intro _ _; rfl) : PE X (.Subscript a b pos) (tOp (rG C sp E) ta tb) := by
  refine ⟨fun pins s σ H Q I h => ?_⟩
  refine Subscript_ (binT ha hc I h fun v u s2 x y H2 I2 rx ry q => ?_)
  obtain ⟨p, dx, fs, rfl, hp, q⟩ := q
  cases rx
  obtain ⟨mA, J, _⟩ := ins_get I2.hok hp
  obtain ⟨od, J, _⟩ := J.look
  obtain ⟨m, hF⟩ := I2.fr
  have rv : Vals [V.ref p, y] [Value.ref p, u] := .cons rfl (.cons ry .nil)
  exact PySem.W.sub_K hF I2.ok.mod.kin J o.at_ fi o.fn (run_at F (Sub.in1 (n := n) ⟨hr, rfl⟩) hb hx I2 rv q fun v u H' s' I' rv qv => ⟨v, H', I', rv, qv⟩) (hs _ _)
/-- k in o, k not in o by the own __contains__ -/
def rInO (C : Addr) (sp : Sp) (E : XK) (g : Bool → Bool) : R2 := fun x y H Q => ∃ p dx fs, y = .ref p ∧ H p = some (.ins C dx fs) ∧ sp [y, x] H (fun v H' => ∃ k, v = .bl k ∧ Q (.bl (g k)) H') E
theorem op_inO (F : FnOk X.prog X.w X.K X.mg X.base CX n f fd ps sp) (o : Own X.K C "__contains__" f) (hr : Room n X.A) (hb : Binds X.K fd ps []) (hx : Passes CX X E) : OpR X (compareOp .In) (rInO C sp E id) := by
  intro pins s σ H x y v u Q I rx ry h
  obtain ⟨p, dx, fs, rfl, hp, q⟩ := h
  cases ry
  obtain ⟨mA, J, _⟩ := ins_get I.hok hp
  obtain ⟨od, J, _⟩ := J.look
  obtain ⟨m, hF⟩ := I.fr
  have rv : Vals [V.ref p, x] [Value.ref p, v] := .cons rfl (.cons rx .nil)
  refine PySem.W.in_K hF I.ok.mod.kin J o.at_ o.fn (run_at F ⟨hr, rfl⟩ hb hx I rv q fun v u H' s' I' rv qv => ?_)
  obtain ⟨k, rfl, qv⟩ := qv
  cases rv
  exact wpAny_truthy_bool ⟨.bl (id k), H', I', rfl, qv⟩
/-- len(o) by the own __len__ -/
def rLenO (C : Addr) (sp : Sp) (E : XK) : List V → Hp → VK → Prop := fun xs H Q => ∃ p dx fs, xs = [.ref p] ∧ H p = some (.ins C dx fs) ∧ sp xs H (fun v H' => (∃ i : Int, v = .int i ∧ 0 ≤ i ∧ i < 2 ^ 63) ∧ Q v H') E
theorem call_lenO (F : FnOk X.prog X.w X.K X.mg X.base CX n f fd ps sp) (o : Own X.K C "__len__" f) (hr : Room (n + 1) X.A) (hb : Binds X.K fd ps []) (hx : Passes CX X E) : CallR X (.builtin "len") (rLenO C sp E) := by
  intro pins s σ H xs us Q I r h
  obtain ⟨p, dx, fs, rfl, hp, q⟩ := h
  obtain ⟨u, rfl, ru⟩ := vals1 r
  cases ru
  obtain ⟨mA, J, _⟩ := ins_get I.hok hp
  obtain ⟨od, J, _⟩ := J.look
  obtain ⟨m, hF⟩ := I.fr
  refine PySem.W.len_K hF I.ok.mod.kin J o.at_ o.fn (run_at F (Sub.in1 (n := n) ⟨hr, rfl⟩) hb hx I v1 q fun v u H' s' I' rv qv => ?_)
  obtain ⟨⟨i, rfl, h0, h1⟩, qv⟩ := qv
  obtain ⟨t, rfl⟩ := rv
  exact ⟨⟨h0, h1⟩, .int i, H', I'.tok _, ⟨_, rfl⟩, qv⟩
end
/-! ### a new instance where what is raised is wished for at the caller's slots -/
section
variable {X : Cx} {CX : CXT} {k n : Nat} {f C : Addr} {fd : FuncData} {ps ks : List Str} {sp : Sp} {E : L2.St → XK} {x : Str} {p pos : Pos} {e : Expr} {es : List Expr} {kws : List Keyword} {t tk : TA} {g : List Value → List Value → List Value} {gV : List V → List V → List V} {ds : List Value} {dvs : List V}
theorem run_makeKS {pins : List (Addr × Obj)} {σ : L2.St} {H : Hp} {s : Shared} {Q : VK} {us ws : List Value} {vs zs : List V} (M : Mk X.K C f) (F : FnOk X.prog X.w X.K X.mg X.base CX k f fd ps sp) (hr : Room (k + 1) X.A) (hb : KBn X.K fd ps (n + 1) ks g gV) (hx : PassesAt CX X σ (E σ))
    (I : Inv X pins σ H s) (r : Vals vs us) (rz : Vals zs ws) (l1 : vs.length = n) (l2 : zs.length = ks.length)
    (h : ∀ x dx, H x = none → H dx = none → dx ≠ x → sp (gV (.ref x :: vs) zs) (upd (upd H dx (.own x)) x (.ins C dx [])) (fun v H2 => v = .non ∧ Q (.ref x) H2) (E σ)) :
    wpAny (model X.prog X.w) X.A (call (.ref C) us (ks.zip ws)) (EP X pins σ Q) X.xe s := by
  have hq := h (s.heap.objs.size + 1) s.heap.objs.size (I.hok.fresh (Nat.le_succ _)) (I.hok.fresh (Nat.le_refl _)) (Nat.ne_of_lt (Nat.lt_succ_self _))
  have I2 := Inv.made (C := C) I
  have r1 : Vals (V.ref (s.heap.objs.size + 1) :: vs) (Value.ref (s.heap.objs.size + 1) :: us) := .cons rfl r
  have r2 := hb.rel r1 rz
  have n1 : (Value.ref (s.heap.objs.size + 1) :: us).length = n + 1 := by
    rw [List.length_cons, ← r.length, l1]
  refine wpAny_call (make_map (f := f) I.kIn M.makes M.init (beq_iff_eq.mp M.fn) (codeAny_mono (F.run _ X.stack _ _ ⟨Value.ref (s.heap.objs.size + 1) :: us, ks.zip ws⟩ (g (Value.ref (s.heap.objs.size + 1) :: us) ws) _ _ (E σ) (hr.make C us (ks.zip ws))
    (I2.env0.make C us (ks.zip ws)) (hb.to _ (Value.ref (s.heap.objs.size + 1) :: us) ws I2.kIn n1 (rz.length.symm.trans l2)) r2 hq) fun r s' hq' => ?_))
  cases r with
  | error e => exact hx pins _ _ e s' I2 hq'
  | ok fl =>
    cases fl with
    | ret u =>
      obtain ⟨v, H', I3, rv, ev, q3⟩ := I2.after hq'
      subst ev
      exact ⟨rv, ⟨V.ref (s.heap.objs.size + 1), H', I3, rfl, q3⟩⟩
    | next => exact False.elim hq'
    | brk => exact False.elim hq'
    | cont => exact False.elim hq'
/-- C(e, .., k = v, ..), whatever of them is there -/
def tMakeKS (C : Addr) (n m : Nat) (sp : Sp) (gV : List V → List V → List V) (E : L2.St → XK) (t tk : TA) : TE := fun σ H Q => t σ H fun vs H1 => tk σ H1 fun zs H2 => vs.length = n ∧ zs.length = m ∧ ∀ x dx, H2 x = none → H2 dx = none → dx ≠ x →
  sp (gV (.ref x :: vs) zs) (upd (upd H2 dx (.own x)) x (.ins C dx [])) (fun v H3 => v = .non ∧ Q (.ref x) H3) (E σ)
theorem pe_makeKS0 (M : Mk X.K C f) (F : FnOk X.prog X.w X.K X.mg X.base CX k f fd ps sp) (hr : Room (k + 1) X.A) (hg : Gl X x) (hm : X.mg x = some (.ref C)) (hb : KBn X.K fd ps 1 ks g gV) (hx : ∀ σ, PassesAt CX X σ (E σ)) (hkw : PK X kws tk)
    (hall : (backToKw pos (keywordEach kws X.env)).all (·.1.isSome) = true := by rfl) (hks : (backToKw pos (keywordEach kws X.env)).filterMap (·.1) = ks := by rfl) (hdb : (x == ("__debug__" : Str)) = false := by decide)
    (hpl : ((backTo pos (starEach [] X.env)).any (·.1) || (backToKw pos (keywordEach kws X.env)).any (·.1.isNone)) = false := by rfl) :
    PE X (.Call (.Name x p) [] kws pos) (tMakeKS C 0 ks.length sp gV E tNil tk) := by
  refine ⟨fun pins s σ H Q I h => ?_⟩
  refine wpAny_Call_Name_kw (ld_glob I hg hm ?_ hdb)
  refine PySem.W.callWith_KW0 (h₀ := X.base) I.ok.mod.kin M.kp hall ?_ hpl
  refine thn (hkw.run pos pins s σ H _ I h) fun ws s2 ⟨zs, H2, I2, rz, l1, l2, q2⟩ => ⟨I2.kIn, ?_⟩
  rw [hks]
  exact run_makeKS (us := []) (vs := []) M F hr hb (hx σ) I2 .nil rz rfl l2 q2
theorem pe_makeKS (M : Mk X.K C f) (F : FnOk X.prog X.w X.K X.mg X.base CX k f fd ps sp) (hr : Room (k + 1) X.A) (hg : Gl X x) (hm : X.mg x = some (.ref C)) (hb : KBn X.K fd ps (n + 1) ks g gV) (hx : ∀ σ, PassesAt CX X σ (E σ)) (ha : PA X (e :: es) t) (hkw : PK X kws tk)
    (hall : (backToKw pos (keywordEach kws X.env)).all (·.1.isSome) = true := by rfl) (hks : (backToKw pos (keywordEach kws X.env)).filterMap (·.1) = ks := by rfl) (hdb : (x == ("__debug__" : Str)) = false := by decide)
    (he : starEach (e :: es) X.env = (false, eval e X.env) :: starEach es X.env := by rfl) (hpl : ((backTo pos (starEach (e :: es) X.env)).any (·.1) || (backToKw pos (keywordEach kws X.env)).any (·.1.isNone)) = false := by rfl) :
    PE X (.Call (.Name x p) (e :: es) kws pos) (tMakeKS C n ks.length sp gV E t tk) := by
  refine ⟨fun pins s σ H Q I h => ?_⟩
  refine wpAny_Call_Name_kw (ld_glob I hg hm ?_ hdb)
  refine PySem.W.callWith_KW (h₀ := X.base) I.ok.mod.kin M.kp hall (thn (ha.run pos pins s σ H _ I h) fun us s1 ⟨vs, H1, I1, r, q⟩ => ?_) hpl he
  refine thn (hkw.run pos pins s1 σ H1 _ I1 q) fun ws s2 ⟨zs, H2, I2, rz, l1, l2, q2⟩ => ⟨I2.kIn, ?_⟩
  rw [hks]
  exact run_makeKS M F hr hb (hx σ) I2 r rz l1 l2 q2
end
end OS

namespace OS
open PySem PySem.Spec PySem.W PySem.Calls PyProof.Rows
section
variable {prog : Program} {w : World} {A : Around} {E : Value → Shared → Prop} {s : Shared} {K : Frag} {x C L f g : Addr} {h₀ : Heap} {m : Str → Option Value} {ox : Obj} {od : Option Obj}
theorem int_add_ni {i : Int} {t : Tok} {Q : Value → Shared → Prop} (hx : s.heap.get? x = some ox) (hd : ox.data = .plain) (h : Q .notImplemented s) : wpAny (model prog w) A (call (.builtin "int.__add__") [.int i t, .ref x]) Q E s := by
  refine wpAny_call_entry PySem.F.slot_int_add (typeIs_int s i t) PySem.F.entry_int_add ?_ (PySem.F.args_int_add_2 _ _)
  show wpAny _ _ ((load x >>= fun o => match o.data with | .prim (.int i _) => pure (some i) | _ => pure none) >>= fun r => _) _ _ s
  refine wpAny_bind (wpAny_bind (wpAny_load hx ?_))
  rw [hd]
  exact wpAny_pure (wpAny_bind (wpAny_rule (wpAny_pure ⟨_, rfl, h⟩)))
theorem int_sub_ni {i : Int} {t : Tok} {Q : Value → Shared → Prop} (hx : s.heap.get? x = some ox) (hd : ox.data = .plain) (h : Q .notImplemented s) : wpAny (model prog w) A (call (.builtin "int.__sub__") [.int i t, .ref x]) Q E s := by
  refine wpAny_call_entry PySem.F.slot_int_sub (typeIs_int s i t) PySem.F.entry_int_sub ?_ (PySem.F.args_int_sub_2 _ _)
  show wpAny _ _ ((load x >>= fun o => match o.data with | .prim (.int i _) => pure (some i) | _ => pure none) >>= fun r => _) _ _ s
  refine wpAny_bind (wpAny_bind (wpAny_load hx ?_))
  rw [hd]
  exact wpAny_pure (wpAny_bind (wpAny_rule (wpAny_pure ⟨_, rfl, h⟩)))
theorem int_mul_ni {i : Int} {t : Tok} {Q : Value → Shared → Prop} (hx : s.heap.get? x = some ox) (hd : ox.data = .plain) (h : Q .notImplemented s) : wpAny (model prog w) A (call (.builtin "int.__mul__") [.int i t, .ref x]) Q E s := by
  refine wpAny_call_entry PySem.F.slot_int_mul (typeIs_int s i t) PySem.F.entry_int_mul ?_ (PySem.F.args_int_mul_2 _ _)
  show wpAny _ _ ((load x >>= fun o => match o.data with | .prim (.int i _) => pure (some i) | _ => pure none) >>= fun r => _) _ _ s
  refine wpAny_bind (wpAny_bind (wpAny_load hx ?_))
  rw [hd]
  exact wpAny_pure (wpAny_bind (wpAny_rule (wpAny_pure ⟨_, rfl, h⟩)))
/-- what an int's own operator says of an instance -/
def Decl (prog : Program) (w : World) (nm id : String) : Prop := Slot "int" (PySem.dunder nm) id ∧ ∀ (A : Around) (E : Value → Shared → Prop) (s : Shared) (x : Addr) (ox : Obj) (i : Int) (t : Tok) (Q : Value → Shared → Prop), s.heap.get? x = some ox → ox.data = .plain → Q .notImplemented s → wpAny (model prog w) A (call (.builtin id) [.int i t, .ref x]) Q E s
theorem decl_add : Decl prog w "add" "int.__add__" := ⟨PySem.F.slot_int_add, fun _ _ _ _ _ _ _ _ => int_add_ni⟩
theorem decl_sub : Decl prog w "sub" "int.__sub__" := ⟨PySem.F.slot_int_sub, fun _ _ _ _ _ _ _ _ => int_sub_ni⟩
theorem decl_mul : Decl prog w "mul" "int.__mul__" := ⟨PySem.F.slot_int_mul, fun _ _ _ _ _ _ _ _ => int_mul_ni⟩
theorem int_op_own {op : Operator} {i : Int} {t : Tok} {id : String} {fo ro : Option Value} {Q : Value → Shared → Prop} (F : Fr h₀ L s.heap m) (X₀ : K.In h₀) (I : InstAt s.heap x ox C od) (hx : s.heap.get? x = some ox) (hd : ox.data = .plain) (hc : selfFirst K C = true)
    (hs : findIn K (.ref C) (PySem.dunder op.info.2) = some (some (.ref f))) (hr : findIn K (.ref C) (dunderR op.info.2) = some (some (.ref g))) (hg : isFn K (.ref g) = true)
    (h1 : findIn K (.type "int") (PySem.dunder op.info.2) = some fo) (h2 : findIn K (.type "int") (dunderR op.info.2) = some ro) (hsub : subIn K (.ref C) (.type "int") = some false) (dc : Decl prog w op.info.2 id)
    (h : wpAny (model prog w) A (call (.ref g) [.ref x, .int i t]) (PySem.W.CmpBack Q) E s) : wpAny (model prog w) A (binaryOp op (.int i t) (.ref x)) Q E s := by
  have X := X₀.keeps F.keep
  obtain ⟨cd, rest, hcd, hm⟩ := ksp_first hc
  rcases hi : op.info with ⟨sym, nm'⟩
  rw [hi] at hs hr h1 h2 dc
  dsimp only at hs hr h1 h2 dc
  have one := ksp_try X I hr hg h
  have zero : wpAny (model prog w) A (tryMethod (.int i t) (PySem.dunder nm') (.ref x)) (fun r s' => r = none ∧ s' = s) E s := by
    unfold tryMethod
    refine wpAny_bind (wpAny_callSpecial?_slot (typeIs_int s i t) dc.1 (dc.2 _ _ _ _ _ _ _ _ hx hd ?_))
    exact wpAny_pure ⟨rfl, rfl⟩
  obtain ⟨hh, g', d, tt, os⟩ := s
  have L1 : Looks (model prog w) hh (typeOf (.ref x)) (.ref C) := I.type
  have L2 : Looks (model prog w) hh (typeOf (.int i t)) (.type "int") := Looks.of_pure rfl
  have L3 : Looks (model prog w) hh (fillsNumberSlot (.ref C) nm') true := fills_K X hcd hm hs
  have L4 : Looks (model prog w) hh (fillsNumberSlot (.type "int") nm') ((fo.isSome && !isSeqSlot fo) || (ro.isSome && !isSeqSlot ro)) := ksp_fillsT X h1 h2
  have L5 : Looks (model prog w) hh (isSubtype (.ref C) (.type "int")) false := looks_subIn X hsub
  have L7 : Looks (model prog w) hh (numberSlotInPython (.type "int") nm') false := Looks.of_pure rfl
  generalize ((fo.isSome && !isSeqSlot fo) || (ro.isSome && !isSeqSlot ro)) = left at L4
  have hne : (Value.type "int" == Value.ref C) = false := Bool.eq_false_iff.mpr fun q => by cases beq_iff_eq.mp q
  simp only [binaryOp, hi]
  refine wpAny_holding (wpAny_bind ?_)
  unfold binaryOp1
  refine wpAny_bind (L2.at (wpAny_bind (L1.at (wpAny_bind (L4.at ?_)))))
  simp only [hne, Bool.false_eq_true, if_false]
  cases left with
  | false =>
    ksp_lk
    refine wpAny_mono one (fun r s' hr' => ?_) fun _ _ e => e
    obtain ⟨v, rfl, hq⟩ := hr'
    ksp_lk
    exact hq
  | true =>
    ksp_lk
    refine wpAny_mono zero (fun r s' hr' => ?_) fun _ _ e => e
    obtain ⟨rfl, rfl⟩ := hr'
    ksp_lk
    refine wpAny_mono one (fun r s' hr' => ?_) fun _ _ e => e
    obtain ⟨v, rfl, hq⟩ := hr'
    ksp_lk
    exact hq
end
end OS

namespace OS
open PySem PySem.Spec PySem.W PySem.Calls PyProof.Rows
section
variable {prog : Program} {w : World} {A : Around} {E : Value → Shared → Prop} {s : Shared} {K : Frag} {x C L f : Addr} {h₀ : Heap} {m : Str → Option Value} {ox : Obj} {od : Option Obj} {b tb : Value}
theorem ne_own {Q : Value → Shared → Prop} (hu : A.units + 1 < cLine) (F : Fr h₀ L s.heap m) (X₀ : K.In h₀) (I : InstAt s.heap x ox C od) (hb : Looks (model prog w) s.heap (typeOf b) tb) (hn : notFirst K C tb = true)
    (hne : findIn K (.ref C) "__ne__" = some (some (.builtin "object.__ne__"))) (hs : findIn K (.ref C) "__eq__" = some (some (.ref f))) (hf : isFn K (.ref f) = true) (hob : subIn K (.ref C) (.type "object") = some true)
    (h : wpAny (model prog w) A.in1 (call (.ref f) [.ref x, b]) (fun v s' => ∃ r, v = .bool r ∧ Q (.bool (!r)) s') E s) : wpAny (model prog w) A (richCompare .NotEq (.ref x) b) Q E s := by
  have X := X₀.keeps F.keep
  have L0 : Looks (model prog w) s.heap (typeOf (.ref x)) (.ref C) := I.type
  have sub : Looks (model prog w) s.heap (isInstance (.ref x) (.type "object")) true := L0.andThen (looks_subIn X hob)
  have body : wpAny (model prog w) A (call (.builtin "object.__ne__") [.ref x, b]) (fun v s' => ∃ r, v = .bool r ∧ Q (.bool r) s') E s := by
    refine wpAny_call (codeAny_call_builtin PySem.F.cmp_object.ne.plain PySem.F.cmpEntry_ne ?_)
    refine @check_slot (model prog w) _ _ s "object.__ne__" "object" "__ne__" (.ref x) [b] [] _ PySem.F.cmpKind_ne PySem.F.cmpSplit_ne sub (PySem.F.cmpArgs_ne _ _) ?_
    unfold Builtin.«object.__ne__»
    refine wpAny_bind (wpAny_of_eq (a := ((Value.ref x : Value), [b])) (by first | rfl | (simp only [slotArgs]; rfl)) ?_)
    refine wpAny_bind (wpAny_cRoomFor hu ?_)
    refine wpAny_bind (ifBound_K X I hs hf (wpAny_mono h (fun v s' hv => ?_) fun _ _ e => e))
    obtain ⟨r, rfl, q⟩ := hv
    refine wpAny_bind (wpAny_truthy_bool (wpAny_pure ?_))
    exact ⟨_, rfl, q⟩
  have one : wpAny (model prog w) A (tryCompare (.ref x) "__ne__" b) (fun r s' => ∃ v, r = some v ∧ Q v s') E s := by
    unfold tryCompare
    refine wpAny_bind ?_
    simp only [callSpecialIfBound?, bindSpecialIfBound?]
    refine wpAny_holding (wpAny_bind (wpAny_bind (wpAny_bind (I.type.here ((looks_findIn X hne).here ?_)))))
    refine wpAny_bind (wpAny_askSetting (wpAny_ite ?_))
    have bnd : Looks (model prog w) s.heap (bindSpecial (.builtin "object.__ne__") (.ref x)) (.builtin "object.__ne__", [.ref x]) := Looks.of_pure (PySem.F.cmp_object.ne.bind _)
    have fin : wpAny (model prog w) A (call (.builtin "object.__ne__") ([.ref x] ++ [b]) >>= fun v => pure (some v)) (fun r s' => wpAny (model prog w) A (match r with | some .notImplemented | none => pure none | some v => pure (some v)) (fun r s' => ∃ v, r = some v ∧ Q v s') E s') E s :=
      wpAny_bind (wpAny_mono body (fun v s' h' => by
        obtain ⟨r, rfl, q⟩ := h'
        exact wpAny_pure (wpAny_pure ⟨_, rfl, q⟩)) fun _ _ h' => h')
    split
    · exact wpAny_bind (bnd.here (wpAny_pure (by exact fin)))
    · exact wpAny_tryCatch (wpAny_bind (bnd.here (wpAny_pure (by exact fin))))
  unfold richCompare
  simp only [oneThing_ref]
  refine wpAny_holding (wpAny_bind (wpAny_cRoomFor (Nat.lt_of_succ_lt hu) ?_))
  refine wpAny_bind (I.type.here (wpAny_bind (hb.here ?_)))
  split
  · rename_i q
    have e : subIn K tb (.ref C) = some false := by
      rcases Bool.or_eq_true_iff.mp hn with e | e
      · rw [beq_iff_eq.mp e] at q; simp at q
      · exact beq_iff_eq.mp e
    refine wpAny_bind ((looks_subIn X e).here ?_)
    simp only [Bool.false_eq_true, if_false]
    refine wpAny_bind (wpAny_mono one (fun r s' z => ?_) fun _ _ e => e)
    obtain ⟨v, rfl, hq⟩ := z
    exact wpAny_pure hq
  · refine wpAny_bind (wpAny_pure ?_)
    simp only [Bool.false_eq_true, if_false]
    refine wpAny_bind (wpAny_mono one (fun r s' z => ?_) fun _ _ e => e)
    obtain ⟨v, rfl, hq⟩ := z
    exact wpAny_pure hq
end
end OS

namespace OS
open PySem PySem.Spec PySem.W PySem.Calls PyProof.Rows
section
variable {prog : Program} {w : World} {A : Around} {E : Value → Shared → Prop} {s : Shared} {K : Frag} {x C L f : Addr} {h₀ : Heap} {m : Str → Option Value} {ox : Obj} {od : Option Obj} {cd : ClassData}
/-- a plain class: itself and object -/
structure Mro2 (K : Frag) (C : Addr) : Prop where
  ex : ∃ cd, clsIn K C = some cd ∧ cd.mro = [.ref C, .type "object"]
theorem no_inplace {M : Model} {h : Heap} {nm : String} {add : Bool} (X : K.In h) (m2 : Mro2 K C) (h1 : findIn K (.ref C) (dunderI nm) = some none) (h2 : findIn K (.type "object") (dunderI nm) = some none) : Looks M h (fillsInplaceSlot (.ref C) nm add) false := by
  intro A Q E s k q
  obtain ⟨cd, hc, hm⟩ := m2.ex
  have Lm : Looks M h (mroOf (.ref C)) cd.mro := (looks_clsIn X hc).andThen (f := fun cd => pure cd.mro) .now
  have Lm' := Lm.keeps k
  obtain ⟨hh, g, d, tt, os⟩ := s
  have X' : K.In hh := X.keeps k
  have L1 : Looks M hh (typeLookup (.ref C) (dunderI nm)) none := looks_findIn X' h1
  have L2 : Looks M hh (typeLookup (.type "object") (dunderI nm)) none := looks_findIn X' h2
  unfold fillsInplaceSlot
  refine wpAny_bind (Lm'.at ?_)
  rw [hm]
  simp only [List.anyM_cons, List.anyM_nil]
  repeat lk
  exact q
theorem bin1_same {nm : String} {b : Value} {Q : Value → Shared → Prop} (X : K.In s.heap) (I : InstAt s.heap x ox C od) (hb : Looks (model prog w) s.heap (typeOf b) (.ref C)) (hc : selfFirst K C = true)
    (hs : findIn K (.ref C) (PySem.dunder nm) = some (some (.ref f))) (hf : isFn K (.ref f) = true)
    (h : wpAny (model prog w) A (call (.ref f) [.ref x, b]) (PySem.W.CmpBack Q) E s) : wpAny (model prog w) A (binaryOp1 nm (.ref x) b) (fun r s' => ∃ v, r = some v ∧ Q v s') E s := by
  obtain ⟨cd, rest, hcd, hm⟩ := ksp_first hc
  unfold binaryOp1
  refine wpAny_bind (I.type.here (wpAny_bind (hb.here (wpAny_bind ((fills_K X hcd hm hs).here ?_)))))
  simp only [beq_self_eq_true, if_true]
  refine wpAny_bind (wpAny_pure ?_)
  simp only [Bool.and_false, Bool.false_eq_true, if_false, Bool.false_and]
  refine wpAny_bind (wpAny_pure ?_)
  simp only [Bool.false_eq_true, if_false]
  refine wpAny_bind (m := tryMethod (.ref x) _ b) ?_
  unfold tryMethod
  refine wpAny_bind (special_fn X I hs (beq_iff_eq.mp hf) (wpAny_mono h (fun v s' hv => ?_) fun _ _ e => e))
  cases v <;> first | exact hv.elim | exact wpAny_pure (wpAny_pure ⟨_, rfl, hv⟩)
theorem bin1_T {nm T : String} {b : Value} {fo ro rc : Option Value} {Q : Value → Shared → Prop} (X : K.In s.heap) (I : InstAt s.heap x ox C od) (hb : typeOf b = pure (.type T)) (hc : selfFirst K C = true)
    (hs : findIn K (.ref C) (PySem.dunder nm) = some (some (.ref f))) (hf : isFn K (.ref f) = true) (hr : findIn K (.ref C) (dunderR nm) = some rc) (hp : rc = none ∨ ∃ g : Addr, rc = some (.ref g))
    (h1 : findIn K (.type T) (PySem.dunder nm) = some fo) (h2 : findIn K (.type T) (dunderR nm) = some ro) (hsub : subIn K (.type T) (.ref C) = some false)
    (h : wpAny (model prog w) A (call (.ref f) [.ref x, b]) (PySem.W.CmpBack Q) E s) : wpAny (model prog w) A (binaryOp1 nm (.ref x) b) (fun r s' => ∃ v, r = some v ∧ Q v s') E s := by
  obtain ⟨cd, rest, hcd, hm⟩ := ksp_first hc
  have one := ksp_try X I hs hf h
  obtain ⟨hh, g, d, tt, os⟩ := s
  have L1 : Looks (model prog w) hh (typeOf (.ref x)) (.ref C) := I.type
  have L2 : Looks (model prog w) hh (typeOf b) (.type T) := Looks.of_pure hb
  have L3 : Looks (model prog w) hh (fillsNumberSlot (.ref C) nm) true := fills_K X hcd hm hs
  have L4 : Looks (model prog w) hh (fillsNumberSlot (.type T) nm) ((fo.isSome && !isSeqSlot fo) || (ro.isSome && !isSeqSlot ro)) := ksp_fillsT X h1 h2
  have L5 : Looks (model prog w) hh (isSubtype (.type T) (.ref C)) false := looks_subIn X hsub
  have L6 : Looks (model prog w) hh (numberSlotInPython (.ref C) nm) true := ksp_inPy X hs hr hp
  have L7 : Looks (model prog w) hh (numberSlotInPython (.type T) nm) false := Looks.of_pure rfl
  have L8 : Looks (model prog w) hh (typeLookup (.type T) (dunderR nm)) ro := looks_findIn X h2
  generalize ((fo.isSome && !isSeqSlot fo) || (ro.isSome && !isSeqSlot ro)) = right at L4
  have hne : (Value.ref C == Value.type T) = false := Bool.eq_false_iff.mpr fun q => by cases beq_iff_eq.mp q
  unfold binaryOp1
  refine wpAny_bind (L1.at (wpAny_bind (L2.at (wpAny_bind (L3.at ?_)))))
  simp only [hne, Bool.false_eq_true, if_false]
  cases right with
  | false =>
    ksp_lk
    refine wpAny_mono one (fun r s' hr' => ?_) fun _ _ e => e
    obtain ⟨v, rfl, hq⟩ := hr'
    ksp_lk
    exact ⟨_, rfl, hq⟩
  | true =>
    ksp_lk
    refine wpAny_mono one (fun r s' hr' => ?_) fun _ _ e => e
    obtain ⟨v, rfl, hq⟩ := hr'
    ksp_lk
    exact ⟨_, rfl, hq⟩
theorem inplace_own {op : Operator} {b : Value} {Q : Value → Shared → Prop} (X : K.In s.heap) (I : InstAt s.heap x ox C od) (m2 : Mro2 K C) (h1 : findIn K (.ref C) (dunderI op.info.2) = some none) (h2 : findIn K (.type "object") (dunderI op.info.2) = some none)
    (h : wpAny (model prog w) A (binaryOp1 op.info.2 (.ref x) b) (fun r s' => ∃ v, r = some v ∧ Q v s') E s) : wpAny (model prog w) A (inplaceOp op (.ref x) b) Q E s := by
  have L2 : Looks (model prog w) s.heap (fillsInplaceSlot (.ref C) op.info.2 (op == .Add)) false := no_inplace X m2 h1 h2
  unfold inplaceOp
  refine wpAny_holding (wpAny_bind (I.type.here ?_))
  refine wpAny_bind (L2.here ?_)
  simp only [Bool.false_eq_true, if_false]
  refine wpAny_bind (wpAny_mono h (fun r s' hr' => ?_) fun _ _ e => e)
  obtain ⟨v, rfl, hq⟩ := hr'
  exact wpAny_pure hq
end
end OS
namespace OS
open PySem L2 PySem.Spec PyProof.Rows
section
variable {X : Cx} {CX : CXT} {n : Nat} {f C : Addr} {fd : FuncData} {ps : List Str} {sp : Sp} {E : XK}
theorem plain_at {pins : List (Addr × Obj)} {σ : L2.St} {H : Hp} {s : Shared} {a dx : Addr} {fs : List (Str × V)} (I : Inv X pins σ H s) (h : H a = some (.ins C dx fs)) : ∃ ox od, PySem.W.InstAt s.heap a ox C od ∧ ox.data = .plain := StX.insC_at I (.inr ⟨dx, fs, h⟩)
/-- int op instance, by the instance's reflected method -/
def rR1 (C : Addr) (sp : Sp) (E : XK) : R2 := fun x y H Q => ∃ a dx fs i, x = .int i ∧ y = .ref a ∧ H a = some (.ins C dx fs) ∧ sp [y, x] H Q E
theorem op_refl {op : Operator} {id : String} {g : Addr} {fo ro : Option Value} (F : FnOk X.prog X.w X.K X.mg X.base CX n f fd ps sp) (o : Own X.K C (dunderR op.info.2) f) (hc : PySem.W.selfFirst X.K C = true)
    (hs : PySem.W.findIn X.K (.ref C) (PySem.dunder op.info.2) = some (some (.ref g))) (h1 : PySem.W.findIn X.K (.type "int") (PySem.dunder op.info.2) = some fo) (h2 : PySem.W.findIn X.K (.type "int") (dunderR op.info.2) = some ro)
    (hsub : PySem.W.subIn X.K (.ref C) (.type "int") = some false) (dc : Decl X.prog X.w op.info.2 id) (hr : Room n X.A) (hb : Binds X.K fd ps []) (hx : Passes CX X E) : OpR X (binaryOp op) (rR1 C sp E) := by
  intro pins s σ H x y v u Q I rx ry h
  obtain ⟨a, dx, fs, i, rfl, rfl, ha, q⟩ := h
  cases ry
  obtain ⟨t, rfl⟩ := rx
  obtain ⟨ox, od, J, hd⟩ := plain_at I ha
  obtain ⟨m, hF⟩ := I.fr
  exact int_op_own hF I.ok.mod.kin J J.1 hd hc hs o.at_ o.fn h1 h2 hsub dc (run_at F ⟨hr, rfl⟩ hb hx I v2i q fun v u H' s' I' rv qv => notImpl rv ⟨v, H', I', rv, qv⟩)
/-- == and != by the own __eq__ -/
def rEqO (C : Addr) (sp : Sp) (E : XK) (g : Bool → Bool) : R2 := fun x y H Q => ∃ p dx fs, x = .ref p ∧ H p = some (.ins C dx fs) ∧ ((∃ i, y = .int i) ∨ ∃ b dy gs, y = .ref b ∧ H b = some (.ins C dy gs)) ∧ sp [x, y] H (fun v H' => ∃ k, v = .bl k ∧ Q (.bl (g k)) H') E
structure EqF (K : PySem.W.Frag) (C f : Addr) : Prop where
  own : Own K C "__eq__" f
  sub : PySem.W.subIn K (.type "int") (.ref C) = some false
  ne : PySem.W.findIn K (.ref C) "__ne__" = some (some (.builtin "object.__ne__"))
  ob : PySem.W.subIn K (.ref C) (.type "object") = some true
theorem eq_pre {pins : List (Addr × Obj)} {σ : L2.St} {H : Hp} {s : Shared} {y : V} {u : Value} (O : EqF X.K C f) (I : Inv X pins σ H s) (ry : RelV y u) (h : (∃ i, y = .int i) ∨ ∃ b dy gs, y = .ref b ∧ H b = some (.ins C dy gs)) :
    ∃ tb, PySem.W.Looks (model X.prog X.w) s.heap (typeOf u) tb ∧ PySem.W.notFirst X.K C tb = true := by
  rcases h with ⟨i, rfl⟩ | ⟨b, dy, gs, rfl, hb⟩
  · obtain ⟨t, rfl⟩ := ry
    exact ⟨.type "int", PySem.W.Looks.of_pure rfl, by unfold PySem.W.notFirst; rw [O.sub]; rfl⟩
  · cases ry
    obtain ⟨ox, od, J, hd⟩ := plain_at I hb
    exact ⟨.ref C, J.type, by unfold PySem.W.notFirst; simp⟩
theorem op_eqO (F : FnOk X.prog X.w X.K X.mg X.base CX n f fd ps sp) (O : EqF X.K C f) (hu : X.A.units < cLine) (hr : Room n X.A) (hb : Binds X.K fd ps []) (hx : Passes CX X E) : OpR X (compareOp .Eq) (rEqO C sp E id) := by
  intro pins s σ H x y v u Q I rx ry h
  obtain ⟨p, dx, fs, rfl, hp, hy, q⟩ := h
  cases rx
  obtain ⟨ox, od, J, hd⟩ := plain_at I hp
  obtain ⟨tb, hl, hn⟩ := eq_pre O I ry hy
  obtain ⟨m, hF⟩ := I.fr
  have rv : Vals [V.ref p, y] [Value.ref p, u] := .cons rfl (.cons ry .nil)
  show wpAny _ _ (richCompare .Eq (.ref p) u) _ _ _
  refine PySem.W.cmp_K hu hF I.ok.mod.kin J hl hn O.own.at_ O.own.fn (run_at F ⟨hr, rfl⟩ hb hx I rv q fun v u H' s' I' rv qv => ?_)
  obtain ⟨k, rfl, qv⟩ := qv
  cases rv
  exact ⟨.bl (id k), H', I', rfl, qv⟩
theorem op_neO (F : FnOk X.prog X.w X.K X.mg X.base CX n f fd ps sp) (O : EqF X.K C f) (hu : X.A.units + 1 < cLine) (hr : Room (n + 1) X.A) (hb : Binds X.K fd ps []) (hx : Passes CX X E) : OpR X (compareOp .NotEq) (rEqO C sp E not) := by
  intro pins s σ H x y v u Q I rx ry h
  obtain ⟨p, dx, fs, rfl, hp, hy, q⟩ := h
  cases rx
  obtain ⟨ox, od, J, hd⟩ := plain_at I hp
  obtain ⟨tb, hl, hn⟩ := eq_pre O I ry hy
  obtain ⟨m, hF⟩ := I.fr
  have rv : Vals [V.ref p, y] [Value.ref p, u] := .cons rfl (.cons ry .nil)
  show wpAny _ _ (richCompare .NotEq (.ref p) u) _ _ _
  refine ne_own hu hF I.ok.mod.kin J hl hn O.ne O.own.at_ O.own.fn O.ob (run_at F (Sub.in1 (n := n) ⟨hr, rfl⟩) hb hx I rv q fun v u H' s' I' rv qv => ?_)
  obtain ⟨k, rfl, qv⟩ := qv
  cases rv
  exact ⟨k, rfl, .bl (!k), H', I', rfl, qv⟩
/-- x op= y, x an instance without the in-place method -/
structure IpF (K : PySem.W.Frag) (C : Addr) (m : Str) : Prop where
  m2 : Mro2 K C
  h1 : PySem.W.findIn K (.ref C) m = some none
  h2 : PySem.W.findIn K (.type "object") m = some none
theorem ip_own2 {op : Operator} (F : FnOk X.prog X.w X.K X.mg X.base CX n f fd ps sp) (o : Own X.K C (PySem.dunder op.info.2) f) (hc : PySem.W.selfFirst X.K C = true) (ip : IpF X.K C (dunderI op.info.2))
    (hr : Room n X.A) (hb : Binds X.K fd ps []) (hx : Passes CX X E) : PIp X op (rB2 C sp E) := by
  intro pins s σ H x y v u Q I rx ry h
  obtain ⟨a, dx, fs, b, dy, gs, rfl, rfl, ha, hb', q⟩ := h
  cases rx
  cases ry
  obtain ⟨ox, od, J, _⟩ := plain_at I ha
  obtain ⟨oy, oe, J', _⟩ := plain_at I hb'
  exact inplace_own I.kIn J ip.m2 ip.h1 ip.h2 (bin1_same I.kIn J J'.type hc o.at_ o.fn (run_at F ⟨hr, rfl⟩ hb hx I v2 q fun v u H' s' I' rv qv => notImpl rv ⟨v, H', I', rv, qv⟩))
theorem ip_ownI {op : Operator} {fo ro rc : Option Value} (F : FnOk X.prog X.w X.K X.mg X.base CX n f fd ps sp) (o : Own X.K C (PySem.dunder op.info.2) f) (hc : PySem.W.selfFirst X.K C = true) (ip : IpF X.K C (dunderI op.info.2))
    (hrr : PySem.W.findIn X.K (.ref C) (dunderR op.info.2) = some rc) (hp : rc = none ∨ ∃ g : Addr, rc = some (.ref g)) (h1 : PySem.W.findIn X.K (.type "int") (PySem.dunder op.info.2) = some fo) (h2 : PySem.W.findIn X.K (.type "int") (dunderR op.info.2) = some ro)
    (hsub : PySem.W.subIn X.K (.type "int") (.ref C) = some false) (hr : Room n X.A) (hb : Binds X.K fd ps []) (hx : Passes CX X E) : PIp X op (rB1 C sp E) := by
  intro pins s σ H x y v u Q I rx ry h
  obtain ⟨a, dx, fs, i, rfl, rfl, ha, q⟩ := h
  cases rx
  obtain ⟨t, rfl⟩ := ry
  obtain ⟨ox, od, J, _⟩ := plain_at I ha
  exact inplace_own I.kIn J ip.m2 ip.h1 ip.h2 (bin1_T (T := "int") I.kIn J rfl hc o.at_ o.fn hrr hp h1 h2 hsub (run_at F ⟨hr, rfl⟩ hb hx I v2i q fun v u H' s' I' rv qv => notImpl rv ⟨v, H', I', rv, qv⟩))
end
end OS

namespace OS
open PySem L2 PySem.Spec PyProof.Rows
/-! ### == and != of objects of own classes, the other's class no class above or below -/
section
variable {X : Cx} {CX : CXT} {n : Nat} {f C : Addr} {fd : FuncData} {ps : List Str} {sp : Sp} {E : XK}
/-- an object of the class itself, or of one that is none of its kind -/
def rEqX (K : PySem.W.Frag) (C : Addr) (sp : Sp) (E : XK) (g : Bool → Bool) : R2 := fun x y H Q => ∃ p dx fs b D dy gs, x = .ref p ∧ H p = some (.ins C dx fs) ∧ y = .ref b ∧ H b = some (.ins D dy gs) ∧ (D = C ∨ PySem.W.subIn K (.ref D) (.ref C) = some false) ∧ sp [x, y] H (fun v H' => ∃ k, v = .bl k ∧ Q (.bl (g k)) H') E
theorem eqx_pre {pins : List (Addr × Obj)} {σ : L2.St} {H : Hp} {s : Shared} {b D dy : Addr} {gs : List (Str × V)} (I : Inv X pins σ H s) (hb : H b = some (.ins D dy gs)) (h : D = C ∨ PySem.W.subIn X.K (.ref D) (.ref C) = some false) :
    ∃ tb, PySem.W.Looks (model X.prog X.w) s.heap (typeOf (.ref b)) tb ∧ PySem.W.notFirst X.K C tb = true := by
  obtain ⟨ox, od, J, hd⟩ := plain_at I hb
  refine ⟨.ref D, J.type, ?_⟩
  rcases h with rfl | h
  · unfold PySem.W.notFirst; simp
  · unfold PySem.W.notFirst; rw [h]; simp
theorem op_eqX (F : FnOk X.prog X.w X.K X.mg X.base CX n f fd ps sp) (O : EqF X.K C f) (hu : X.A.units < cLine) (hr : Room n X.A) (hb : Binds X.K fd ps []) (hx : Passes CX X E) : OpR X (compareOp .Eq) (rEqX X.K C sp E id) := by
  intro pins s σ H x y v u Q I rx ry h
  obtain ⟨p, dx, fs, b, D, dy, gs, rfl, hp, rfl, hB, hD, q⟩ := h
  cases rx
  cases ry
  obtain ⟨ox, od, J, hd⟩ := plain_at I hp
  obtain ⟨tb, hl, hn⟩ := eqx_pre I hB hD
  obtain ⟨m, hF⟩ := I.fr
  have rv : Vals [V.ref p, V.ref b] [Value.ref p, Value.ref b] := .cons rfl (.cons rfl .nil)
  show wpAny _ _ (richCompare .Eq (.ref p) (.ref b)) _ _ _
  refine PySem.W.cmp_K hu hF I.ok.mod.kin J hl hn O.own.at_ O.own.fn (run_at F ⟨hr, rfl⟩ hb hx I rv q fun v u H' s' I' rv qv => ?_)
  obtain ⟨k, rfl, qv⟩ := qv
  cases rv
  exact ⟨.bl (id k), H', I', rfl, qv⟩
theorem op_neX (F : FnOk X.prog X.w X.K X.mg X.base CX n f fd ps sp) (O : EqF X.K C f) (hu : X.A.units + 1 < cLine) (hr : Room (n + 1) X.A) (hb : Binds X.K fd ps []) (hx : Passes CX X E) : OpR X (compareOp .NotEq) (rEqX X.K C sp E not) := by
  intro pins s σ H x y v u Q I rx ry h
  obtain ⟨p, dx, fs, b, D, dy, gs, rfl, hp, rfl, hB, hD, q⟩ := h
  cases rx
  cases ry
  obtain ⟨ox, od, J, hd⟩ := plain_at I hp
  obtain ⟨tb, hl, hn⟩ := eqx_pre I hB hD
  obtain ⟨m, hF⟩ := I.fr
  have rv : Vals [V.ref p, V.ref b] [Value.ref p, Value.ref b] := .cons rfl (.cons rfl .nil)
  show wpAny _ _ (richCompare .NotEq (.ref p) (.ref b)) _ _ _
  refine ne_own hu hF I.ok.mod.kin J hl hn O.ne O.own.at_ O.own.fn O.ob (run_at F (Sub.in1 (n := n) ⟨hr, rfl⟩) hb hx I rv q fun v u H' s' I' rv qv => ?_)
  obtain ⟨k, rfl, qv⟩ := qv
  cases rv
  exact ⟨k, rfl, .bl (!k), H', I', rfl, qv⟩
end
end OS

/-! ### operators of own classes, over data -/
namespace OZ
open PySem L2 PySem.Spec PyProof.Rows
structure SpecG (M : Mode) (B : Bd) (k : Nat) (C : Addr) (mt : Str) (n : Nat) (F : FD) : Prop where
  ex : ∃ g : Addr, OS.Own B.K C mt g ∧ FnG M B k g n F
theorem SpecG.lift {M : Mode} {B : Bd} {k n : Nat} {C : Addr} {mt : Str} {F : FD} (c : SpecG pureM B k C mt n F) : SpecG M B k C mt n (FP F) := by
  obtain ⟨g, h1, h2⟩ := c.ex
  exact ⟨g, h1, h2.lift⟩
section
variable {M : Mode} {X : Cx} {KE : Kx} {P : Da → Nat → Prop} {m k j n : Nat} {C D f : Addr} {F : FD} {mt : Str} {fs gs : List (Str × Da)} {ds : List Da} {B : Bd} {N : List Str} {sc : Scope}
theorem run_atD {A : Around} (c : FnG M (bdOf X) k f n F) (sb : Sub X j A) (hk : k ≤ j) (hl : ds.length = n) {P' : Da → Nat → Prop} (hF : F ds P' KE m) {G H : Hp} {σ : L2.St} {W : WX} {pins : List (Addr × Obj)} {s : Shared} {vs : List V} {us : List Value} {R : Value → Shared → Prop} (ok : Ok M G H G H m) (wi : Wis M X KE G H σ W)
    (r : Reps X.K G vs ds) (I : Inv X pins σ H s) (rv : Vals vs us) (kk : ∀ v d m' G' H' u s', P' d m' → Ok M G H G' H' m' → Rep X.K G' v d → Inv X pins σ H' s' → RelV v u → R u s') : wpAny (model X.prog X.w) A (call (.ref f) us) R X.xe s := by
  obtain ⟨CX, fd, ps, Fo, hb, hc, hn⟩ := c.ex
  have e0 : Env0 X.prog X.w X.K X.mg X.base A X.stack s H := by
    have e := I.env0
    exact ⟨by rw [sb.fr]; exact e.frames, e.mod, e.bs, e.bsz, e.funs, e.frf, e.hok, e.bare⟩
  have sp : spD M X.K n F vs H (fun v H' => ∃ d m' G', P' d m' ∧ Ok M G H G' H' m' ∧ Rep X.K G' v d) (WE W σ) := ⟨r.length.trans hl, G, m, ds, P', KE, ok, r, hF, fun v d m' G' H' p o rr => ⟨d, m', G', p, o, rr⟩, fun C fs d m' G' H' => wi.ex C fs d m' G' H'⟩
  refine wpAny_call (codeAny_mono (Fo.run A X.stack s H ⟨us, []⟩ us vs _ (WE W σ) (sb.room.mono hk) e0 (by
    have := hb s us I.kIn (by rw [List.append_nil, ← rv.length, r.length, hl]; exact hn)
    simpa using this) rv sp) fun r' s' hq => ?_)
  cases r' with
  | error e => exact passes_any wi.tk hc σ pins H s e s' I hq
  | ok fl =>
    cases fl with
    | ret u =>
      obtain ⟨v, H', I', rv, d, m', G', p, o, rr⟩ := I.after hq
      exact kk v d m' G' H' u s' p o rr I' rv
    | next => exact False.elim hq
    | brk => exact False.elim hq
    | cont => exact False.elim hq
/-- x op y, both of the class -/
theorem opd_own2 {op : Operator} (cx : Ctx X N sc B) (c : SpecG M B k C (PySem.dunder op.info.2) 2 F) (hc : PySem.W.selfFirst X.K C = true) (hr : Room j X.A) (h : F [.obj C fs, .obj C gs] P KE m) (hk : k ≤ j := by with_unfolding_all decide) : OpD M X KE (binaryOp op) (.obj C fs) (.obj C gs) P m := by
  have eb := cx.b
  subst eb
  obtain ⟨g, o, fg⟩ := c.ex
  intro G H σ W Q x y ok wi r1 r2 po pins s v u I rx ry
  have r10 := r1; have r20 := r2
  obtain ⟨a, dx, vs, rfl, ea, _⟩ := r1.obj_inv
  obtain ⟨b, dy, ws, rfl, eb, _⟩ := r2.obj_inv
  cases rx; cases ry
  obtain ⟨mA, J, _⟩ := ins_get I.hok (ok.sub _ _ ea)
  obtain ⟨mB, J', _⟩ := ins_get I.hok (ok.sub _ _ eb)
  obtain ⟨od, J, _⟩ := J.look
  obtain ⟨od', J', _⟩ := J'.look
  obtain ⟨mm, hF⟩ := I.fr
  exact PySem.W.binop_K hF I.ok.mod.kin J J'.type hc o.at_ o.fn (run_atD fg ⟨hr, rfl⟩ hk rfl h ok wi (.cons r10 (.cons r20 .nil)) I OS.v2 fun v d m' G' H' u s' p o2 rr I' rv => OS.notImpl rv ⟨v, H', I', rv, po v d m' G' H' p o2 rr⟩)
/-- len(o) -/
theorem cd_lenO (cx : Ctx X N sc B) (c : SpecG M B k C "__len__" 1 F) (hr : Room j X.A) (h : F [.obj C fs] (fun d m1 => ∃ i : Int, d = .int i ∧ (0 ≤ i ∧ i < 2 ^ 63) ∧ P (.int i) m1) KE m) (hk : k + 1 ≤ j := by with_unfolding_all decide) : CallD M X KE (.builtin "len") [.obj C fs] P m := by
  have eb := cx.b
  subst eb
  obtain ⟨g, o, fg⟩ := c.ex
  intro G H σ W Q vs ok wi r po pins s us I rv
  obtain ⟨x, rfl, r1⟩ := reps1 r
  have r10 := r1
  obtain ⟨a, dx, ws, rfl, ea, _⟩ := r1.obj_inv
  obtain ⟨u, rfl, ru⟩ := vals1 rv
  cases ru
  obtain ⟨mA, J, _⟩ := ins_get I.hok (ok.sub _ _ ea)
  obtain ⟨od, J, _⟩ := J.look
  obtain ⟨mm, hF⟩ := I.fr
  refine PySem.W.len_K hF I.ok.mod.kin J o.at_ o.fn (run_atD fg (Sub.in1 (n := k) ⟨hr.mono hk, rfl⟩) (Nat.le_refl _) rfl h ok wi (.cons r10 .nil) I OS.v1 fun v d m' G' H' u s' p o2 rr I' rv => ?_)
  obtain ⟨i, rfl, hi, p⟩ := p
  cases rr.int_inv
  obtain ⟨t, rfl⟩ := rv
  exact ⟨hi, .int i, H', I'.tok _, ⟨_, rfl⟩, po _ _ m' G' H' p o2 (.int i)⟩
/-- k in o -/
theorem opd_inO {x : Da} (cx : Ctx X N sc B) (c : SpecG M B k C "__contains__" 2 F) (hr : Room j X.A) (h : F [.obj C fs, x] (fun d m1 => ∃ b, d = .bl b ∧ P (.bl b) m1) KE m) (hk : k ≤ j := by with_unfolding_all decide) : OpD M X KE (compareOp .In) x (.obj C fs) P m := by
  have eb := cx.b
  subst eb
  obtain ⟨g, o, fg⟩ := c.ex
  intro G H σ W Q y z ok wi r1 r2 po pins s v u I rx ry
  have r20 := r2
  obtain ⟨a, dx, ws, rfl, ea, _⟩ := r2.obj_inv
  cases ry
  obtain ⟨mA, J, _⟩ := ins_get I.hok (ok.sub _ _ ea)
  obtain ⟨od, J, _⟩ := J.look
  obtain ⟨mm, hF⟩ := I.fr
  refine PySem.W.in_K hF I.ok.mod.kin J o.at_ o.fn (run_atD fg ⟨hr, rfl⟩ hk rfl h ok wi (.cons r20 (.cons r1 .nil)) I (.cons rfl (.cons rx .nil)) fun v d m' G' H' u s' p o2 rr I' rv => ?_)
  obtain ⟨b, rfl, p⟩ := p
  cases rr.bl_inv
  cases rv
  exact wpAny_truthy_bool ⟨.bl b, H', I', rfl, po _ _ m' G' H' p o2 (.bl b)⟩
/-- o == p, o != p -/
theorem opd_eqO (cx : Ctx X N sc B) (c : FnG M B k f 2 F) (O : OS.EqF X.K C f) (hD : D = C ∨ PySem.W.subIn X.K (.ref D) (.ref C) = some false) (hr : Room j X.A) (hu : X.A.units < cLine) (h : F [.obj C fs, .obj D gs] (fun d m1 => ∃ b, d = .bl b ∧ P (.bl b) m1) KE m) (hk : k ≤ j := by with_unfolding_all decide) : OpD M X KE (compareOp .Eq) (.obj C fs) (.obj D gs) P m := by
  have eb := cx.b
  subst eb
  intro G H σ W Q x y ok wi r1 r2 po pins s v u I rx ry
  have r10 := r1; have r20 := r2
  obtain ⟨a, dx, vs, rfl, ea, _⟩ := r1.obj_inv
  obtain ⟨b, dy, ws, rfl, eb, _⟩ := r2.obj_inv
  cases rx; cases ry
  obtain ⟨ox, od, J, hd⟩ := OS.plain_at I (ok.sub _ _ ea)
  obtain ⟨tb, hl, hn⟩ := OS.eqx_pre I (ok.sub _ _ eb) hD
  obtain ⟨mm, hF⟩ := I.fr
  show wpAny _ _ (richCompare .Eq (.ref a) (.ref b)) _ _ _
  refine PySem.W.cmp_K hu hF I.ok.mod.kin J hl hn O.own.at_ O.own.fn (run_atD c ⟨hr, rfl⟩ hk rfl h ok wi (.cons r10 (.cons r20 .nil)) I OS.v2 fun v d m' G' H' u s' p o2 rr I' rv => ?_)
  obtain ⟨b, rfl, p⟩ := p
  cases rr.bl_inv
  cases rv
  exact ⟨.bl b, H', I', rfl, po _ _ m' G' H' p o2 (.bl b)⟩
theorem opd_neO (cx : Ctx X N sc B) (c : FnG M B k f 2 F) (O : OS.EqF X.K C f) (hD : D = C ∨ PySem.W.subIn X.K (.ref D) (.ref C) = some false) (hr : Room j X.A) (hu : X.A.units + 1 < cLine) (h : F [.obj C fs, .obj D gs] (fun d m1 => ∃ b, d = .bl b ∧ P (.bl (!b)) m1) KE m) (hk : k + 1 ≤ j := by with_unfolding_all decide) : OpD M X KE (compareOp .NotEq) (.obj C fs) (.obj D gs) P m := by
  have eb := cx.b
  subst eb
  intro G H σ W Q x y ok wi r1 r2 po pins s v u I rx ry
  have r10 := r1; have r20 := r2
  obtain ⟨a, dx, vs, rfl, ea, _⟩ := r1.obj_inv
  obtain ⟨b, dy, ws, rfl, eb, _⟩ := r2.obj_inv
  cases rx; cases ry
  obtain ⟨ox, od, J, hd⟩ := OS.plain_at I (ok.sub _ _ ea)
  obtain ⟨tb, hl, hn⟩ := OS.eqx_pre I (ok.sub _ _ eb) hD
  obtain ⟨mm, hF⟩ := I.fr
  show wpAny _ _ (richCompare .NotEq (.ref a) (.ref b)) _ _ _
  refine OS.ne_own hu hF I.ok.mod.kin J hl hn O.ne O.own.at_ O.own.fn O.ob (run_atD c (Sub.in1 (n := k) ⟨hr.mono hk, rfl⟩) (Nat.le_refl _) rfl h ok wi (.cons r10 (.cons r20 .nil)) I OS.v2 fun v d m' G' H' u s' p o2 rr I' rv => ?_)
  obtain ⟨b, rfl, p⟩ := p
  cases rr.bl_inv
  cases rv
  exact ⟨b, rfl, .bl (!b), H', I', rfl, po _ _ m' G' H' p o2 (.bl (!b))⟩
/-- i.bit_length() -/
theorem evd_bits {o : Expr} {sl : List Sl} {apos pos : Pos} (h : EvD M X KE o sl (fun d m1 => ∃ i : Int, d = .int i ∧ P (.int ((Builtin.Int.intBits i : Nat) : Int)) m1) m) (hbase : attributeBase o "bit_length" X.env (eval o X.env) = eval o X.env := by with_unfolding_all rfl) (hline : (apos.endLine == pos.line) = true := by with_unfolding_all rfl) : EvD M X KE (.Call (.Attribute o "bit_length" apos) [] [] pos) sl P m := fun G0 H0 G H σ W Q ok so wi po =>
  wpE.of (pe_bits pe_wp hbase hline) (h G0 H0 G H σ W _ ok so wi fun v d m' G' H' q o r => by
    obtain ⟨i, rfl, q⟩ := q
    exact ⟨i, r.int_inv, po _ _ m' G' H' q o (.int _)⟩)
end
end OZ

/-! ### defs with defaults; the law -/
namespace OZ
open PySem L2 PySem.Spec PyProof.Rows
section
variable {B : Bd} {M : Mode} {x qual : Str} {st : Stmt} {f : Addr} {fd : FuncData} {N ps : List Str} {k n : Nat} {F : FD} {dvs : List V} {kws : List (Str × V)}
theorem fnD_ok (Fn : FunD B.K x qual (defArgs st) (defBody st) (defScope st) dvs kws f fd) (S : FnScope N ps (defScope st)) (hn : n = ps.length)
    (h : ∀ (X : Cx) (ds : List Da) (KR : Da → Nat → Prop) (KE : Kx) (m : Nat), (∃ cdv A outer s H E, X = cxOf (L2.CX B.P B.w) B.P B.w B.K B.mg B.base N qual (defScope st) f cdv A outer s H E) → Ctx X N (defScope st) B → Room k X.A → ds.length = n → F ds KR KE m →
      StD M X (fun _ => KE) (defBody st) (startD N ds) { nx := fun _ m' => KR .non m', rt := KR } m) : FnOk B.P B.w B.K B.mg B.base (L2.CX B.P B.w) (k + 1) f fd ps (spD M B.K n F) := by
  refine Fn.ok S (fun vs H Q E q => q.1.trans hn) (fun cdv A outer s H vs Q E hr q => ?_)
  obtain ⟨hl, G, m, ds, KR, KE, ok, r, hF, po, px⟩ := q
  refine ⟨_, pss_wp, ?_⟩
  refine h (cxOf (L2.CX B.P B.w) B.P B.w B.K B.mg B.base N qual (defScope st) f cdv A outer s H E) ds KR KE m ⟨cdv, A, outer, s, H, E, rfl⟩ ⟨rfl, rfl, S.nd, rfl⟩ hr (r.length.symm.trans hl) hF G H G H (L2.start N vs) (fun cls d _ H => E cls d H) _ ok (sok_start r) ⟨takes_of rfl rfl rfl rfl, fun C fs d σ sl m' G' H' q o _ x => px C fs d m' G' H' q o x⟩ ⟨?_, ?_, ?_, ?_, ?_⟩
  · exact fun σ sl m' G' H' q o _ => po .non .non m' G' H' q o .non
  · exact fun v d m' G' H' q o rr => po v d m' G' H' q o rr
  · exact fun _ _ _ _ _ z => z.elim
  · exact fun _ _ _ _ _ z => z.elim
  · exact fun _ _ _ _ _ z => z.elim
theorem FnK.dflt {CX : CXT} {vs0 : List V} {us0 : List Value} {ds0 : List Da} (Fo : FnOk B.P B.w B.K B.mg B.base CX k f fd ps (spD M B.K ps.length F)) (hc : CX = CX0 ∨ CX = L2.CX B.P B.w) (hb : Binds B.K fd ps us0) (hv : Vals vs0 us0) (hr : ∀ G, Reps B.K G vs0 ds0) (hn : n + ds0.length = ps.length) : FnK M B k f n [] (fun ds _ => ds ++ ds0) F := by
  have l0 : us0.length = ds0.length := by rw [← hv.length, (hr (fun _ => none)).length]
  refine ⟨CX, fd, ps, fun us _ => us ++ us0, fun vs _ => vs ++ vs0, Fo, ⟨fun s us ws Kin l1 l2 => hb s us Kin (by rw [List.length_append, l1, l0]; exact hn), fun a _ => a.append hv⟩, fun G vs zs ds es r1 r2 h1 _ => ⟨r1.append (hr G), by rw [List.length_append, h1]; exact hn⟩, hc⟩
theorem FnK.kw {CX : CXT} {ks : List Str} {g : List Value → List Value → List Value} {gV : List V → List V → List V} {gD : List Da → List Da → List Da} (Fo : FnOk B.P B.w B.K B.mg B.base CX k f fd ps (spD M B.K ps.length F)) (hc : CX = CX0 ∨ CX = L2.CX B.P B.w) (hb : KBn B.K fd ps n ks g gV)
    (hr : ∀ (G : Hp) (vs zs : List V) (ds es : List Da), Reps B.K G vs ds → Reps B.K G zs es → ds.length = n → es.length = ks.length → Reps B.K G (gV vs zs) (gD ds es) ∧ (gD ds es).length = ps.length) : FnK M B k f n ks gD F := ⟨CX, fd, ps, g, gV, Fo, hb, hr, hc⟩
end
def spLaw (K : PySem.W.Frag) : Sp := fun vs H Q _ => ∃ (a : Addr) (ns : List Int), vs = [.ref a] ∧ SqL K H a (ns.map V.int) ∧ ns.length ≤ 63 ∧ ∀ H', Q (.bl true) H'
end OZ
namespace OZ
open PySem L2 PySem.Spec PyProof.Rows
theorem calld_make {M : Mode} {X : Cx} {KE : Kx} {P : Da → Nat → Prop} {m k j n : Nat} {C : Addr} {gD : List Da → List Da → List Da} {F : FI} {ds : List Da} {N : List Str} {sc : Scope} {B : Bd} (cx : Ctx X N sc B) (c : MakeG M B k C n [] gD F) (hr : Room j X.A) (h1 : ds.length = n) (h : F (gD ds []) (fun fs m1 => P (.obj C fs) m1) KE m) (hk : k + 1 ≤ j := by with_unfolding_all decide) : CallD M X KE (.ref C) ds P m := by
  have eb := cx.b
  subst eb
  exact (c.call hr h1 rfl h hk).toK.d
theorem FnG.mk' {B : Bd} {M : Mode} {CX : CXT} {k n : Nat} {f : Addr} {fd : FuncData} {ps : List Str} {F : FD} (Fo : FnOk B.P B.w B.K B.mg B.base CX k f fd ps (spD M B.K n F)) (hb : Binds B.K fd ps []) (hc : CX = CX0 ∨ CX = L2.CX B.P B.w) (hn : n = ps.length) : FnG M B k f n F := ⟨CX, fd, ps, Fo, hb, hc, hn⟩
end OZ

/-! ### comprehensions and loops by an invariant -/
namespace OZ
open PySem L2 PySem.Spec PyProof.Rows
theorem compd_go {step : Da → (Option Da → Nat → Prop) → Nat → Prop} (mono : ∀ d k k' m, (∀ o m', k o m' → k' o m') → step d k m → step d k' m) (I : Nat → List Da → Nat → Prop) : ∀ (ds : List Da) (i : Nat) (acc : List Da) (m : Nat) (K : List Da → Nat → Prop), I i acc m →
    (∀ j d acc m, ds[j]? = some d → I (i + j) acc m → step d (fun o m1 => I (i + j + 1) (acc ++ o.toList) m1) m) → (∀ r m, I (i + ds.length) (acc ++ r) m → K r m) → CompD step ds K m
  | [], i, acc, m, K, h0, _, k => k [] m (by simpa using h0)
  | d :: ds, i, acc, m, K, h0, h, k => by
    refine mono d _ _ m (fun o m1 h1 => ?_) (h 0 d acc m rfl h0)
    refine compd_go mono I ds (i + 1) (acc ++ o.toList) m1 _ h1 (fun j d acc m e h2 => ?_) fun r m2 h2 => ?_
    · have := h (j + 1) d acc m (by simpa using e) (by rw [show i + (j + 1) = i + 1 + j by omega]; exact h2)
      rw [show i + 1 + j + 1 = i + (j + 1) + 1 by omega]
      exact this
    · refine k _ m2 ?_
      rw [← List.append_assoc, show i + (d :: ds).length = i + 1 + ds.length by simp; omega]
      exact h2
theorem compd_inv {step : Da → (Option Da → Nat → Prop) → Nat → Prop} (mono : ∀ d k k' m, (∀ o m', k o m' → k' o m') → step d k m → step d k' m) (I : Nat → List Da → Nat → Prop) {ds : List Da} {m : Nat} {K : List Da → Nat → Prop} (h0 : I 0 [] m)
    (h : ∀ j d acc m, ds[j]? = some d → I j acc m → step d (fun o m1 => I (j + 1) (acc ++ o.toList) m1) m) (k : ∀ r m, I ds.length r m → K r m) : CompD step ds K m :=
  compd_go mono I ds 0 [] m K h0 (fun j d acc m e h1 => by rw [Nat.zero_add] at h1 ⊢; exact h j d acc m e h1) fun r m h1 => k r m (by simpa using h1)
section
variable {M : Mode} {X : Cx} {scope : Scope} {N : List Str} {sc : Scope} {B : Bd} {j : Nat} {vs : List Nat} {tg elt : Expr} {ifs : List Expr} {sl : List Sl} {m : Nat} {x : Str} {p : Pos}
theorem lcstep_mono : ∀ d k k' m, (∀ o m', k o m' → k' o m') → lcStep M X scope N sc B j vs tg ifs elt sl d k m → lcStep M X scope N sc B j vs tg ifs elt sl d k' m := by
  rintro d k k' m hk ⟨sl', is, h1, h2, h3⟩
  refine ⟨sl', is, h1, h2, ?_⟩
  have one : ∀ b m1, (if b = true then AllX X scope N sc B j fun X' => EvD M X' K0 elt sl' (fun y m2 => k (some y) m2) m1 else k none m1) → if b = true then AllX X scope N sc B j fun X' => EvD M X' K0 elt sl' (fun y m2 => k' (some y) m2) m1 else k' none m1 := by
    intro b m1 h
    cases b with
    | true => rw [if_pos rfl] at h ⊢; exact fun s H C cl fp cx hr => evd_imp (h s H C cl fp cx hr) fun y m' q => hk _ _ q
    | false => rw [if_neg Bool.false_ne_true] at h ⊢; exact hk _ _ h
  match ifs, h3 with
  | [], h3 => exact one true m h3
  | [c], h3 => exact fun s H C cl fp cx hr => evt_imp (h3 s H C cl fp cx hr) fun b m' q => one b m' q
  | _ :: _ :: _, h3 => exact h3.elim
/-- [elt for x in ..] -/
theorem lcstep_name {i : Nat} {d : Da} {k : Option Da → Nat → Prop} (hi : EnvSet N sl x i (.v d) (sl.set i (.v d))) (hv : i ∈ vs) (h : AllX X scope N sc B j fun X' => EvD M X' K0 elt (sl.set i (.v d)) (fun y m2 => k (some y) m2) m) (hl : (relabelS scope sc).names.lookup x = some .local) : lcStep M X scope N sc B j vs (.Name x p) [] elt sl d k m :=
  ⟨_, [i], fun s H C cl fp cx hr => .name hi (.inl hl) (.inr (by rw [cx.s]; exact hl)), fun a ha => (by rw [List.mem_singleton.mp ha]; exact hv), h⟩
/-- .. if c -/
theorem lcstep_nameIf {c : Expr} {i : Nat} {d : Da} {k : Option Da → Nat → Prop} (hi : EnvSet N sl x i (.v d) (sl.set i (.v d))) (hv : i ∈ vs)
    (h : AllX X scope N sc B j fun X' => EvT M X' K0 c (sl.set i (.v d)) (fun b m1 => if b = true then AllX X scope N sc B j fun X' => EvD M X' K0 elt (sl.set i (.v d)) (fun y m2 => k (some y) m2) m1 else k none m1) m) (hl : (relabelS scope sc).names.lookup x = some .local) : lcStep M X scope N sc B j vs (.Name x p) [c] elt sl d k m :=
  ⟨_, [i], fun s H C cl fp cx hr => .name hi (.inl hl) (.inr (by rw [cx.s]; exact hl)), fun a ha => (by rw [List.mem_singleton.mp ha]; exact hv), h⟩
theorem EnvSet.of : ∀ {N : List Str} {sl : List Sl} {x : Str} {i : Nat} {s : Sl}, IdxAt N x i → sl.length = N.length → EnvSet N sl x i s (sl.set i s)
  | _ :: _, _ :: _, _, _, _, .here, _ => .here
  | _ :: _, _ :: _, _, _, _, .there h, e => .there (EnvSet.of h (by simpa using e))
  | _ :: _, [], _, _, _, _, e => by simp at e
/-- the comprehension [elt for x in ds], elt the value f of each, no drawing -/
theorem compd_map {i : Nat} (f : Da → Da) {ds : List Da} {K : List Da → Nat → Prop} (hi : IdxAt N x i) (hN : sl.length = N.length) (hv : i ∈ vs) (h : ∀ d ∈ ds, ∀ (P : Da → Nat → Prop), P (f d) m → AllX X scope N sc B j fun X' => EvD M X' K0 elt (sl.set i (.v d)) P m) (k : K (ds.map f) m) (hl : (relabelS scope sc).names.lookup x = some .local := by with_unfolding_all rfl) :
    CompD (lcStep M X scope N sc B j vs (.Name x p) [] elt sl) ds K m := by
  refine compd_inv lcstep_mono (fun n acc m' => m' = m ∧ acc = (ds.take n).map f) ⟨rfl, rfl⟩ ?_ fun r m' ⟨e1, e2⟩ => by rw [e1, e2, List.take_length]; exact k
  rintro n d acc m' e ⟨rfl, rfl⟩
  refine lcstep_name (.of hi hN) hv (h d (List.mem_of_getElem? e) _ ⟨rfl, ?_⟩) hl
  rw [List.take_succ, e]
  simp
/-- .. by an invariant -/
theorem compd_all {i : Nat} (I : Nat → List Da → Nat → Prop) {ds : List Da} {K : List Da → Nat → Prop} (hi : IdxAt N x i) (hN : sl.length = N.length) (hv : i ∈ vs) (h0 : I 0 [] m) (h : ∀ n d acc m, ds[n]? = some d → I n acc m → AllX X scope N sc B j fun X' => EvD M X' K0 elt (sl.set i (.v d)) (fun y m1 => I (n + 1) (acc ++ [y]) m1) m) (k : ∀ r m, I ds.length r m → K r m) (hl : (relabelS scope sc).names.lookup x = some .local := by with_unfolding_all rfl) :
    CompD (lcStep M X scope N sc B j vs (.Name x p) [] elt sl) ds K m := compd_inv lcstep_mono I h0 (fun n d acc m e q => lcstep_name (.of hi hN) hv (h n d acc m e q) hl) k
end
section
variable {body : Da → List Sl → Kn → Nat → Prop} {D : Kn}
theorem ford_go (mono : ∀ d sl D D' m, (∀ s n, D.nx s n → D'.nx s n) → (∀ s n, D.ct s n → D'.ct s n) → D.rt = D'.rt → D.bk = D'.bk → D.rn = D'.rn → body d sl D m → body d sl D' m) (I : Nat → List Sl → Nat → Prop) : ∀ (ds : List Da) (i : Nat) (sl : List Sl) (m : Nat), I i sl m →
    (∀ j d sl m, ds[j]? = some d → I (i + j) sl m → body d sl { D with nx := I (i + j + 1), ct := I (i + j + 1), bk := D.nx } m) → (∀ sl m, I (i + ds.length) sl m → D.nx sl m) → ForD body D ds sl m
  | [], i, sl, m, h0, _, k => k sl m h0
  | d :: ds, i, sl, m, h0, h, k => by
    have nx : ∀ s n, I (i + 1) s n → ForD body D ds s n := fun s n q => ford_go mono I ds (i + 1) s n q (fun j d sl m e h2 => by
      have := h (j + 1) d sl m (by simpa using e) (by rw [show i + (j + 1) = i + 1 + j by omega]; exact h2)
      rw [show i + 1 + j + 1 = i + (j + 1) + 1 by omega]
      exact this) fun sl m h2 => k sl m (by rw [show i + (d :: ds).length = i + 1 + ds.length by simp; omega]; exact h2)
    exact mono d sl { D with nx := I (i + 0 + 1), ct := I (i + 0 + 1), bk := D.nx } _ m nx nx rfl rfl rfl (h 0 d sl m rfl h0)
theorem ford_inv (mono : ∀ d sl D D' m, (∀ s n, D.nx s n → D'.nx s n) → (∀ s n, D.ct s n → D'.ct s n) → D.rt = D'.rt → D.bk = D'.bk → D.rn = D'.rn → body d sl D m → body d sl D' m) (I : Nat → List Sl → Nat → Prop) {ds : List Da} {sl : List Sl} {m : Nat} (h0 : I 0 sl m)
    (h : ∀ j d sl m, ds[j]? = some d → I j sl m → body d sl { D with nx := I (j + 1), ct := I (j + 1), bk := D.nx } m) (k : ∀ sl m, I ds.length sl m → D.nx sl m) : ForD body D ds sl m :=
  ford_go mono I ds 0 sl m h0 (fun j d sl m e h1 => by rw [Nat.zero_add] at h1 ⊢; exact h j d sl m e h1) fun sl m h1 => k sl m (by simpa using h1)
theorem for_mono {M : Mode} {X : Cx} {KE : Ks} {N : List Str} {sc : Scope} {tg : Expr} {st : List Stmt} : ∀ d sl (D D' : Kn) m, (∀ s n, D.nx s n → D'.nx s n) → (∀ s n, D.ct s n → D'.ct s n) → D.rt = D'.rt → D.bk = D'.bk → D.rn = D'.rn →
    (∃ sl' is, Tg X N sc tg d sl sl' is ∧ StD M X KE st sl' D m) → ∃ sl' is, Tg X N sc tg d sl sl' is ∧ StD M X KE st sl' D' m := fun d sl D D' m h1 h2 h3 h4 h5 ⟨sl', is, t, s⟩ =>
  ⟨sl', is, t, std_imp s h1 (fun _ _ q => h3 ▸ q) (fun _ _ q => h4 ▸ q) h2 (fun _ _ q => h5 ▸ q)⟩
/-- for x in ds, by an invariant -/
theorem for_inv {M : Mode} {X : Cx} {KE : Ks} {N : List Str} {sc : Scope} {x : Str} {p : Pos} {st : List Stmt} {i : Nat} {B : Bd} (cx : Ctx X N sc B) (I : Nat → List Sl → Nat → Prop) {ds : List Da} {sl : List Sl} {m : Nat} (hi : IdxAt N x i) (h0 : I 0 sl m) (hN : ∀ n sl m, I n sl m → sl.length = N.length)
    (h : ∀ j d sl m, ds[j]? = some d → I j sl m → StD M X KE st (sl.set i (.v d)) { D with nx := I (j + 1), ct := I (j + 1), bk := D.nx } m) (k : ∀ sl m, I ds.length sl m → D.nx sl m) (hl : Loc sc x := by with_unfolding_all first | exact Or.inl rfl | exact Or.inr rfl) (hf : X.fn x = true ∨ X.env.scope.names.lookup x = some .local := by with_unfolding_all first | exact Or.inl rfl | exact Or.inr rfl) : ForD (fun d sl D m => ∃ sl' is, Tg X N sc (.Name x p) d sl sl' is ∧ StD M X KE st sl' D m) D ds sl m :=
  ford_inv for_mono I h0 (fun j d sl m e q => ⟨_, [i], .name (.of hi (hN j sl m q)) hl hf, h j d sl m e q⟩) k
end
end OZ
namespace OZ
open PySem L2 PySem.Spec PyProof.Rows
theorem evd_fldB {M : Mode} {X : Cx} {KE : Kx} {e : Expr} {sl : List Sl} {P : Da → Nat → Prop} {m : Nat} {pos : Pos} {f : Str} {N : List Str} {sc : Scope} {B : Bd} (cx : Ctx X N sc B) (h : EvD M X KE e sl (fun d m1 => ∃ C fs v, d = .obj C fs ∧ Cls B.K C ∧ NoAttr B.K C f ∧ fs.lookup f = some v ∧ P v m1) m) (hb : attributeBase e f X.env (eval e X.env) = eval e X.env := by with_unfolding_all rfl) : EvD M X KE (.Attribute e f pos) sl P m := by
  have eb := cx.b
  subst eb
  exact evd_fld h hb
end OZ
namespace OZ
open PySem L2 PySem.Spec PyProof.Rows
theorem tryk_hit {M : Mode} {X : Cx} {KS : Ks} {C C' : Addr} {i : Nat} {suite : List Stmt} {D : Kn} {sl : List Sl} {fs : List (Str × Da)} {m : Nat} (hb : PySem.W.exmOne X.K (.ref C') (.ref C) = some true) (hne : fs.isEmpty = false)
    (h : ∀ a oe dd pn, SuX (X.suite a ((a, oe) :: pn)) C' a dd → StD M (X.suite a ((a, oe) :: pn)) (fun _ => K0) suite (sl.set i (.v (.exc a dd fs))) { D with nx := fun sl' m' => D.nx (sl'.set i .un) m', bk := fun sl' m' => D.bk (sl'.set i .un) m', ct := fun sl' m' => D.ct (sl'.set i .un) m' } m) : TryK M X KS C i suite D sl C' fs m :=
  ⟨true, hb, fun _ => ⟨h, fun e => (by rw [e] at hne; exact nomatch hne)⟩, fun z => nomatch z⟩
theorem tryk_pass {M : Mode} {X : Cx} {KS : Ks} {C C' : Addr} {i : Nat} {suite : List Stmt} {D : Kn} {sl : List Sl} {fs : List (Str × Da)} {m : Nat} (hb : PySem.W.exmOne X.K (.ref C') (.ref C) = some false) (h : KS sl C' fs m) : TryK M X KS C i suite D sl C' fs m :=
  ⟨false, hb, (fun z => nomatch z), fun _ => h⟩
structure ErrX (B : Bd) (C : Addr) (n : Str) : Prop where
  xf : XfC B.K C
  no : PySem.W.findIn B.K (.ref C) n = some none
theorem evd_xfB {M : Mode} {X : Cx} {KE : Kx} {e : Expr} {sl : List Sl} {P : Da → Nat → Prop} {m : Nat} {pos : Pos} {C a dd : Addr} {n : Str} {N : List Str} {sc : Scope} {B : Bd} (cx : Ctx X N sc B) (su : SuX X C a dd) (T : ErrX B C n) (h : EvD M X KE e sl (fun d m1 => ∃ fs v, d = .exc a dd fs ∧ fs.lookup n = some v ∧ P v m1) m) (hb : attributeBase e n X.env (eval e X.env) = eval e X.env := by with_unfolding_all rfl) : EvD M X KE (.Attribute e n pos) sl P m := by
  have eb := cx.b
  subst eb
  exact evd_xf su T.xf T.no h hb
end OZ
namespace OZ
open PySem L2 PySem.Spec PyProof.Rows
/-- try with one clause for the one class that its body may raise; what stands at the clause -/
theorem st1_tryI {M : Mode} {X : Cx} {KS : Ks} {sl : List Sl} {D : Kn} {m : Nat} {pos : Pos} {x : Str} {C : Addr} {N : List Str} {sc : Scope} {B : Bd} {i : Nat} {nm : Str} {np hpos : Pos} {body suite : List Stmt} {b₀ : Stmt} (I : List Sl → List (Str × Da) → Nat → Prop) (cx : Ctx X N sc B) (hm : B.mg x = some (.ref C)) (hi : IdxAt N nm i) (te : PySem.W.exmOne B.K (.ref C) (.ref C) = some true)
    (h : ∀ pn xe, PassesOwn (model X.prog X.w) X.A X.env xe → Ctx (X.tr pn xe) N sc B → StD M (X.tr pn xe) (fun sl' C' fs m' => C' = C ∧ fs.isEmpty = false ∧ I sl' fs m') body sl D m)
    (h2 : ∀ sl' fs m' a oe dd pn, I sl' fs m' → SuX (X.suite a ((a, oe) :: pn)) C a dd → Ctx (X.suite a ((a, oe) :: pn)) N sc B → StD M (X.suite a ((a, oe) :: pn)) (fun _ => K0) (b₀ :: suite) (sl'.set i (.v (.exc a dd fs))) { D with nx := fun sl' m' => D.nx (sl'.set i .un) m', bk := fun sl' m' => D.bk (sl'.set i .un) m', ct := fun sl' m' => D.ct (sl'.set i .un) m' } m')
    (hl : sc.names.lookup nm = some .local := by with_unfolding_all rfl) (hs : X.stack = X.env :: X.outer := by with_unfolding_all rfl) (hf : X.env.frame = some X.env.locals := by with_unfolding_all rfl) (hg : GlS sc x := by with_unfolding_all rfl) (hdb : (x == ("__debug__" : Str)) = false := by with_unfolding_all decide) :
    St1 M X KS (.Try body [.ExceptHandler (some (.Name x np)) (some nm) (b₀ :: suite) hpos] [] [] pos) sl D m := by
  have eb := cx.b
  subst eb
  refine st1_try cx hm hi (fun pn xe ps => ?_) hl hs hf hg hdb
  have := h pn xe ps (ctx_tr cx pn xe)
  intro G0 H0 G H σ W E ok so wi po
  refine this G0 H0 G H σ W E ok so ⟨wi.tk, ?_⟩ po
  rintro C' fs d σ' sl' m' G' H' ⟨rfl, hne, hI⟩ ok' so' xr
  refine wi.ex C' fs d σ' sl' m' G' H' ?_ ok' so' xr
  exact tryk_hit te hne fun a oe dd pn2 su => h2 sl' fs m' a oe dd pn2 hI su (ctx_suite cx a _)
end OZ
namespace OZ
open PySem L2 PySem.Spec PyProof.Rows
/-- where two ways meet -/
theorem zjoin {M : Mode} {X : Cx} {KE : Ks} {sa sb : List Stmt} {sl : List Sl} {D : Kn} {m : Nat} {b : Bool} (Mid : List Sl → Nat → Prop) (h : if b = true then StD M X KE sa sl { D with nx := Mid } m else StD M X KE sb sl { D with nx := Mid } m) (k : ∀ sl' m', Mid sl' m' → D.nx sl' m') : if b = true then StD M X KE sa sl D m else StD M X KE sb sl D m := by
  cases b with
  | true => rw [if_pos rfl] at h ⊢; exact std_imp h k (fun _ _ q => q) (fun _ _ q => q) (fun _ _ q => q) (fun _ _ q => q)
  | false => rw [if_neg Bool.false_ne_true] at h ⊢; exact std_imp h k (fun _ _ q => q) (fun _ _ q => q) (fun _ _ q => q) (fun _ _ q => q)
end OZ
namespace OZ
open PySem L2
theorem PropG.lift {M : Mode} {B : Bd} {k : Nat} {C : Addr} {f : Str} {F : FD} (c : PropG pureM B k C f F) : PropG M B k C f (FP F) := by
  obtain ⟨p, g, fd, ps, h1, h2, Fo, hb⟩ := c.ex
  exact ⟨p, g, fd, ps, h1, h2, Fo.imp fun _ _ _ _ q => spD_pure q, hb⟩
end OZ
namespace OZ
mutual
theorem deq_refl : ∀ d : Da, plD d = true → deq d d = true
  | .non, _ => rfl
  | .bl b, _ => by simp [deq]
  | .int i, _ => by simp [deq]
  | .str s, _ => by simp [deq]
  | .tup ds, h => by simp only [deq]; exact deqs_refl ds (by simpa [plD] using h)
  | .lst ds, h => by simp only [deq]; exact deqs_refl ds (by simpa [plD] using h)
  | .ty _, h => by simp [plD] at h
  | .ref _, h => by simp [plD] at h
  | .dct _, h => by simp [plD] at h
  | .obj _ _, h => by simp [plD] at h
  | .exc _ _ _, h => by simp [plD] at h
theorem deqs_refl : ∀ ds : List Da, plDs ds = true → deqs ds ds = true
  | [], _ => rfl
  | d :: ds, h => by
    simp only [plDs, Bool.and_eq_true] at h
    simp only [deqs, deq_refl d h.1, deqs_refl ds h.2, Bool.and_self]
end
theorem zdqT {d : Da} {A B : Prop} (h : plD d = true) (k : A) : if deq d d = true then A else B := by rw [deq_refl d h]; exact k
theorem zdqF {d : Da} {A B : Prop} (h : plD d = true) (k : B) : if (!deq d d) = true then A else B := by rw [deq_refl d h]; exact k
theorem zdqE {d : Da} (h : plD d = true) : Da.bl (deq d d) = Da.bl true := by rw [deq_refl d h]
end OZ

namespace OZ
open PySem L2 PySem.Spec PyProof.Rows
section
variable {B : Bd} {M : Mode} {x qual : Str} {st : Stmt} {f : Addr} {fd : FuncData} {N ps : List Str} {k n : Nat} {F : FD}
theorem fn0_ok (Fn : Fun B.K x qual st f fd) (S : FnScope N ps (defScope st)) (hn : n = ps.length)
    (h : ∀ (X : Cx) (ds : List Da) (KR : Da → Nat → Prop) (KE : Kx) (m : Nat), (∃ cdv A outer s H E, X = (cxOf CX0 B.P B.w B.K B.mg B.base N qual (defScope st) f cdv A outer s H E).nox) → Ctx X N (defScope st) B → Room k X.A → ds.length = n → F ds KR KE m →
      StD M X (fun _ => K0) (defBody st) (startD N ds) { nx := fun _ m' => KR .non m', rt := KR } m) : FnOk B.P B.w B.K B.mg B.base CX0 (k + 1) f fd ps (spD M B.K n F) := by
  refine Fn.ok S (fun vs H Q E q => q.1.trans hn) (fun cdv A outer s H vs Q E hr q => ?_)
  obtain ⟨hl, G, m, ds, KR, KE, ok, r, hF, po, _⟩ := q
  refine ⟨_, pss_wp, ?_⟩
  refine h (cxOf CX0 B.P B.w B.K B.mg B.base N qual (defScope st) f cdv A outer s H E).nox ds KR KE m ⟨cdv, A, outer, s, H, E, rfl⟩ ⟨rfl, rfl, S.nd, rfl⟩ hr (r.length.symm.trans hl) hF G H G H (L2.start N vs) (fun _ _ _ _ => False) _ ok (sok_start r) ⟨takes0, fun _ _ _ _ _ _ _ _ z => z.elim⟩ ⟨?_, ?_, ?_, ?_, ?_⟩
  · exact fun σ sl m' G' H' q o _ => po .non .non m' G' H' q o .non
  · exact fun v d m' G' H' q o rr => po v d m' G' H' q o rr
  · exact fun _ _ _ _ _ z => z.elim
  · exact fun _ _ _ _ _ z => z.elim
  · exact fun _ _ _ _ _ z => z.elim
end
end OZ
namespace OZ
section
variable {P : Bool → Nat → Prop} {m : Nat}
theorem tru_bl {b : Bool} (h : P b m) : Tru P (.bl b) m := h
theorem tru_int {i : Int} (h : P (decide (i ≠ 0)) m) : Tru P (.int i) m := h
theorem tru_non (h : P false m) : Tru P .non m := h
theorem tru_lst {ds : List Da} (h : P (!ds.isEmpty) m) : Tru P (.lst ds) m := h
theorem tru_tup {ds : List Da} (h : P (!ds.isEmpty) m) : Tru P (.tup ds) m := h
end
end OZ

/-! ### own objects looked at; own stores -/
namespace OZ
open PySem L2 PySem.Spec PyProof.Rows
theorem flD_rep {K : PySem.W.Frag} {G G' : Hp} {v : V} {d : Da} (h : flD d = true) (r : Rep K G v d) : Rep K G' v d := by
  cases r with
  | non => exact .non
  | bl b => exact .bl b
  | int b => exact .int b
  | str b => exact .str b
  | _ => simp [flD] at h
def flF (fs : List (Str × Da)) : Bool := fs.all fun p => flD p.2
theorem flF_rep {K : PySem.W.Frag} {G G' : Hp} : ∀ {vs : List (Str × V)} {fs : List (Str × Da)}, flF fs = true → RepF K G vs fs → RepF K G' vs fs
  | _, _, _, .nil => .nil
  | _, _, h, .cons a b => by
    simp only [flF, List.all_cons, Bool.and_eq_true] at h
    exact .cons (flD_rep h.1 a) (flF_rep (by simpa [flF] using h.2) b)
theorem Ok.forget {M : Mode} {G G1 H G' H' : Hp} {m' : Nat} (b : Ok M G1 H G' H' m') (s : Same G G1) : Ok M G H G H' m' :=
  ⟨fun c u e => b.sub _ _ (b.le _ _ (s _ _ e)), b.inv, fun c x => (by
    cases e : G c with
    | none => rfl
    | some u => have h1 := b.off c x; rw [b.le _ _ (s _ _ e)] at h1; cases h1), Same.refl _, b.keep, fun _ _ _ _ g => g⟩
theorem sok_pub {K : PySem.W.Frag} {M : Mode} {H0 G H : Hp} {σ : L2.St} {sl : List Sl} {i : Nat} {q : Option Addr} {d : Da} (so : SOk K M H0 G H σ sl) (hi : sl[i]? = some (.mm q d)) (nd : notDct d = true) :
    ∃ a u, σ[i]? = some (some (.ref a)) ∧ H a = some u ∧ G a = none ∧ ¬ M.X H a ∧ (H0 a = none ∨ M.X H0 a) ∧ RepM K G H a d ∧ SOk K M H0 (L2.upd G a u) H σ (sl.set i (.v d)) := by
  obtain ⟨a, e1, ga, nx, h0, rm, f⟩ := sok_pub' so hi
  obtain ⟨u, hu⟩ := rm.there
  refine ⟨a, u, e1, hu, ga, nx, h0, rm, ?_⟩
  have := f u (repM_rep hu ga rm nd) (by rw [upd_self' hu]; exact fun _ z => z)
  rwa [upd_self' hu] at this
section
variable {M : Mode} {X : Cx} {KE : Kx} {e : Expr} {sl : List Sl} {P : Da → Nat → Prop} {PT' : Bool → Nat → Prop} {m i : Nat} {q : Option Addr} {d : Da}
theorem wis_bor {G H : Hp} {σ : L2.St} {W : WX} {a : Addr} {u : HO} (wi : Wis M X KE G H σ W) (hu : H a = some u) (ga : G a = none) (hx : ∀ vs, u ≠ .xd vs) : Wis M X (fun C fs m => flF fs = true ∧ KE C fs m) (L2.upd G a u) H σ W := by
  refine ⟨wi.tk, fun C fs dd m' G' H' ⟨fl, k⟩ ok xr => ?_⟩
  have s0 : Same G (L2.upd G a u) := sameUp ga
  rcases xr with ⟨rfl, rfl⟩ | ⟨d', vs, rfl, e, r⟩
  · exact wi.ex C [] none m' G H' k (ok.forget s0) (.inl ⟨rfl, rfl⟩)
  · by_cases g : ∃ o, G d' = some o
    · obtain ⟨o, g⟩ := g
      have : G' d' = some o := ok.le _ _ (s0 _ _ g)
      rw [e] at this
      cases this
      exact wi.ex C fs (some d') m' G H' k (ok.forget s0) (.inr ⟨d', vs, rfl, g, flF_rep fl r⟩)
    · have g : G d' = none := by
        cases z : G d' with
        | none => rfl
        | some o => exact absurd ⟨o, z⟩ g
      have na : d' ≠ a := fun z => by
        subst z
        have : G' d' = some u := ok.le _ _ upd_same
        rw [e] at this
        cases this
        exact hx _ rfl
      have f := ok.forget s0
      refine wi.ex C fs (some d') m' (L2.upd G d' (.xd vs)) H' k ⟨fun c o h => ?_, ok.inv, fun c x => ?_, sameUp g, ok.keep, fun c o h n gc => ?_⟩ (.inr ⟨d', vs, rfl, upd_same, flF_rep fl r⟩)
      · by_cases z : c = d'
        · subst z; rw [upd_same] at h; cases h; exact ok.sub _ _ e
        · rw [upd_ne z] at h; exact f.sub _ _ h
      · by_cases z : c = d'
        · subst z; rw [ok.off _ x] at e; cases e
        · rw [upd_ne z]; exact f.off _ x
      · by_cases z : c = d'
        · subst z
          have : G' c = none := ok.new c o h n (by rw [upd_ne na]; exact gc)
          rw [this] at e; cases e
        · rw [upd_ne z]; exact gc
theorem repm_xd {K : PySem.W.Frag} {G H : Hp} {a : Addr} {u : HO} {d : Da} (r : RepM K G H a d) (hu : H a = some u) (vs : List (Str × V)) : u ≠ .xd vs := fun z => by
  subst z
  cases d <;> first | exact r.elim | (obtain ⟨_, h, _⟩ := r; rw [hu] at h; cases h) | (obtain ⟨_, _, h, _⟩ := r; rw [hu] at h; cases h)
/-- an own object is looked at for a while: the value told is flat -/
theorem evd_bor (hi : sl[i]? = some (.mm q d)) (nd : notDct d = true) (h : EvD M X (fun C fs m => flF fs = true ∧ KE C fs m) e (sl.set i (.v d)) (fun z m' => flD z = true ∧ P z m') m) : EvD M X KE e sl P m := by
  intro G0 H0 G H σ W Q ok so wi po
  obtain ⟨a, u, e1, hu, ga, nx, h0, rm, so2⟩ := sok_pub so hi nd
  exact h G0 H0 _ H σ W Q (ok.pub hu ga nx h0) so2 (wis_bor wi hu ga (repm_xd rm hu)) fun v z m' G' H' ⟨fl, p⟩ ok' r => po v z m' G H' p (ok'.forget (sameUp ga)) (flD_rep fl r)
theorem evt_bor (hi : sl[i]? = some (.mm q d)) (nd : notDct d = true) (h : EvT M X (fun C fs m => flF fs = true ∧ KE C fs m) e (sl.set i (.v d)) PT' m) : EvT M X KE e sl PT' m := by
  intro G0 H0 G H σ W Q ok so wi po
  obtain ⟨a, u, e1, hu, ga, nx, h0, rm, so2⟩ := sok_pub so hi nd
  exact h G0 H0 _ H σ W Q (ok.pub hu ga nx h0) so2 (wis_bor wi hu ga (repm_xd rm hu)) fun b m' G' H' p ok' => po b m' G H' p (ok'.forget (sameUp ga))
end
/-! own[e] -/
section
variable {M : Mode} {X : Cx} {KE : Kx} {b e : Expr} {sl : List Sl} {P : Da → Nat → Prop} {m i : Nat} {x : Str} {p pos : Pos} {N : List Str} {sc : Scope} {B : Bd}
theorem evd_ixOwn {ds : List Da} {q : Option Addr} (cx : Ctx X N sc B) (hx : EnvAt N sl x i (.mm q (.lst ds))) (h : EvD M X KE b sl (fun y m1 => ∃ j z, y = .int j ∧ atI ds j = some z ∧ P z m1) m)
    (hv : Vis sc x := by with_unfolding_all first | exact Or.inl rfl | exact Or.inr (Or.inl rfl) | exact Or.inr (Or.inr rfl)) (hd : (x == ("__debug__" : Str)) = false := by with_unfolding_all decide) (hcd : (x == ("__classdict__" : Str)) = false := by with_unfolding_all decide)
    (hs : PlainIx b := by with_unfolding_all (intro _ _; rfl)) : EvD M X KE (.Subscript (.Name x p) b pos) sl P m := by
  intro G0 H0 G H σ W Q ok so wi po
  obtain ⟨o, e1, ad, rfl, zz, g, h0, n, rm⟩ := paired_get so.rel hx.slot
  refine wpE.of (pe_ix ix_list (pe_var (by rw [cx.n]; exact hx.name) (cx.vis hv) hd hcd) pe_wp fun _ _ => hs _ _) ⟨_, e1, ?_⟩
  refine h G0 H0 G H σ W _ ok so wi fun v d m1 G1 H1 ⟨j, z, hy, ha, q1⟩ o1 r1 => ?_
  subst hy
  have so1 := so.step o1
  obtain ⟨o', e2, ad', hh, zz', g', h0', n', vs, hl, rs⟩ := paired_get so1.rel hx.slot
  rw [e1] at e2
  cases e2
  cases hh
  obtain ⟨k, a1, a2⟩ := atI_len rs.length ha
  obtain ⟨w, w1, w2⟩ := rs.get a2
  exact ⟨ad, vs, j, w, rfl, r1.int_inv, sq_l hl, a1.trans w1, po w z m1 G1 H1 q1 o1 w2⟩
theorem evd_ixOwnK {ks : List (Key × Da)} {q : Option Addr} {j : Nat} (cx : Ctx X N sc B) (hr : Room j X.A) (hx : EnvAt N sl x i (.mm q (.dct ks))) (h : EvD M X KE b sl (fun y m1 => ∃ k z, y = keyD k ∧ look k ks = some z ∧ P z m1) m)
    (hv : Vis sc x := by with_unfolding_all first | exact Or.inl rfl | exact Or.inr (Or.inl rfl) | exact Or.inr (Or.inr rfl)) (hd : (x == ("__debug__" : Str)) = false := by with_unfolding_all decide) (hcd : (x == ("__classdict__" : Str)) = false := by with_unfolding_all decide)
    (hs : PlainIx b := by with_unfolding_all (intro _ _; rfl)) : EvD M X KE (.Subscript (.Name x p) b pos) sl P m := by
  intro G0 H0 G H σ W Q ok so wi po
  obtain ⟨o, e1, ad, rfl, zz, g, h0, n, rm⟩ := paired_get so.rel hx.slot
  refine wpE.of (pe_ix (ix_dct (by have := L2.Room.units hr; omega)) (pe_var (by rw [cx.n]; exact hx.name) (cx.vis hv) hd hcd) pe_wp fun _ _ => hs _ _) ⟨_, e1, ?_⟩
  refine h G0 H0 G H σ W _ ok so wi fun v d m1 G1 H1 ⟨k, z, hy, ha, q1⟩ o1 r1 => ?_
  subst hy
  have so1 := so.step o1
  obtain ⟨o', e2, ad', hh, zz', g', h0', n', kvs, hl, rs⟩ := paired_get so1.rel hx.slot
  rw [e1] at e2
  cases e2
  cases hh
  obtain ⟨o2, w1, _, w2⟩ := repK_get (k := k) rs
  obtain ⟨w, rfl, rw'⟩ := w2 z ha
  exact ⟨ad, w, rfl, .inl ⟨kvs, k, .inl hl, rep_key r1, w1.symm⟩, po w z m1 G1 H1 q1 o1 rw'⟩
end
/-! own[i] = e -/
theorem setAt {α β : Type} {xs : List α} {ys : List β} {i : Int} {j : Nat} (e : xs.length = ys.length) (h : ixN ys.length i = some j) : ixN xs.length i = some j := by rw [e]; exact h
section
variable {M : Mode} {X : Cx} {KE : Ks} {b e : Expr} {sl : List Sl} {D : Kn} {m i : Nat} {x : Str} {p pos spos : Pos} {N : List Str} {sc : Scope} {B : Bd}
theorem st1_setIx {ds : List Da} (cx : Ctx X N sc B) (hx : EnvAt N sl x i (.m (.lst ds))) (h : EvD M X (KE sl) e sl (fun z m1 => EvD M X (KE sl) b sl (fun y m2 => ∃ k j, y = .int k ∧ ixN ds.length k = some j ∧ ∃ i' sl', EnvSet N sl x i' (.m (.lst (ds.set j z))) sl' ∧ D.nx sl' m2) m1) m)
    (hv : Vis sc x := by with_unfolding_all first | exact Or.inl rfl | exact Or.inr (Or.inl rfl) | exact Or.inr (Or.inr rfl)) (hd : (x == ("__debug__" : Str)) = false := by with_unfolding_all decide) (hcd : (x == ("__classdict__" : Str)) = false := by with_unfolding_all decide)
    (ha : ∀ v, assign (.Subscript (.Name x p) b pos) X.env v = (do
      let ov ← holding [v] (eval (.Name x p) X.env)
      let iv ← holding [v, ov] (eval b X.env)
      standAt pos
      holding [v, ov, iv] (setItem ov iv v)
      release [v, ov, iv] []) := by with_unfolding_all (intro _; rfl))
    (hs : swapsWithSole [.Subscript (.Name x p) b pos] e spos.line X.env = pure false := by with_unfolding_all rfl) (hw : swappedStores [.Subscript (.Name x p) b pos] e X.env = pure none := by with_unfolding_all rfl)
    (h1 : (assignEach [.Subscript (.Name x p) b pos] X.env).map (·.2) = [assign (.Subscript (.Name x p) b pos) X.env] := by with_unfolding_all rfl) : St1 M X KE (.Assign [.Subscript (.Name x p) b pos] e spos) sl D m := by
  intro G0 H0 G H σ W E ok so wi po
  refine wpS.of (ps_asg pe_wp (pg_sub (pe_var (by rw [cx.n]; exact hx.name) (cx.vis hv) hd hcd) pe_wp set_list ha) hs hw h1) ?_
  have wi' := wi.at ok so
  refine h G0 H0 G H σ W _ ok so wi' fun v z m1 G1 H1 q1 o1 r1 => ?_
  have so1 := so.step o1
  obtain ⟨o, e1, ad, rfl, zz, g, h0, n, rm⟩ := paired_get so1.rel hx.slot
  refine ⟨_, e1, ?_⟩
  refine q1 G0 H0 G1 H1 σ W _ (ok.trans o1) so1 (wi'.step o1) fun w y m2 G2 H2 ⟨k, j, hy, hj, i', sl', es, q2⟩ o2 r2 => ?_
  subst hy
  have so2 := so1.step o2
  obtain ⟨o', e2, ad', hh, zz', g', h0', n', vs, hl, rs⟩ := paired_get so2.rel hx.slot
  rw [e1] at e2
  cases e2
  cases hh
  refine ⟨ad, vs, k, j, rfl, r2.int_inv, hl, setAt rs.length hj, ?_⟩
  obtain ⟨k1, k2⟩ := own_step (ok.trans (o1.trans o2)) so2 hx.slot e1 (o := .lst (vs.set j v)) (d1 := .lst (ds.set j z)) ⟨_, upd_same, rs.set (r1.mono o2.le) j⟩
  exact po.nx σ _ m2 G2 _ q2 k1 (envset_eq (cx.n ▸ cx.nd) hx.name es ▸ k2)
end
end OZ
namespace OZ
open PySem L2
/-- the list or dict that is made for this name will change -/
def OwnHint (_ : Str) : Prop := True
theorem big_size : 100000 ≤ sizeLine := Nat.le_of_ble_eq_true rfl
section
variable {M : Mode} {X : Cx} {KE : Ks} {e : Expr} {sl : List Sl} {D : Kn} {m : Nat} {x : Str} {p pos : Pos} {N : List Str} {sc : Scope} {B : Bd}
theorem st1_setNewH {i0 : Nat} (_ : OwnHint x) (cx : Ctx X N sc B) (hi : IdxAt N x i0) (h : EvN M X (KE sl) e sl (fun d m1 => ∃ i sl', EnvSet N sl x i (.m d) sl' ∧ D.nx sl' m1) m) (hx : Loc sc x := by with_unfolding_all first | exact Or.inl rfl | exact Or.inr rfl)
    (hs : swapsWith e (some (.Name x p)) pos.line X.env = pure false := by with_unfolding_all rfl) (hf : X.fn x = true ∨ X.env.scope.names.lookup x = some .local := by with_unfolding_all first | exact .inl rfl | exact .inr rfl) : St1 M X KE (.Assign [.Name x p] e pos) sl D m := st1_setNew cx h hi hx hs hf
end
end OZ
namespace OZ
open PySem L2 PySem.Spec PyProof.Rows
section
variable {M : Mode} {X : Cx} {KE : Kx} {a b c e : Expr} {es : List Expr} {sl : List Sl} {P : Da → Nat → Prop} {PT' : Bool → Nat → Prop} {m : Nat} {pos : Pos}
theorem evd_chain {op op' : CmpOp} (h : EvD M X KE a sl (fun x m1 => EvD M X KE b sl (fun y m2 => OpD M X KE (compareOp op) x y (fun z m3 => ∃ k, z = .bl k ∧ if k = true then EvD M X KE c sl (fun w m4 => OpD M X KE (compareOp op') y w P m4) m3 else P (.bl false) m3) m2) m1) m)
    (hm : lastMarks [op, op'] [b, c] = false := by with_unfolding_all rfl) : EvD M X KE (.Compare a [op, op'] [b, c] pos) sl P m := by
  intro G0 H0 G H σ W Q ok so wi po pins s I
  refine Compare_chain (h.run ok so wi I fun u s1 v d m1 G1 H1 p1 k1 o1 so1 wi1 r1 I1 rv1 => chain_link (p1.run k1 so1 wi1 I1 fun u2 s2 v2 d2 m2 G2 H2 p2 k2 o2 so2 wi2 r2 I2 rv2 =>
    thn (p2 G2 H2 σ W (fun v H' => ∃ k m3 G3, v = .bl k ∧ Ok M G2 H2 G3 H' m3 ∧ if k = true then EvD M X KE c sl (fun w m4 => OpD M X KE (compareOp op') d2 w P m4) m3 else P (.bl false) m3) v v2 k2.here wi2 (r1.mono o2.le) r2 (fun z d3 m3 G3 H3 p3 o3 r3 => ?_) pins s2 u u2 I2 rv1 rv2) fun c s3 ⟨z, H3, I3, r3, k, m3, G3, e, o3, q3⟩ => ?_)) hm
  · obtain ⟨k, rfl, p⟩ := p3
    exact ⟨k, m3, G3, r3.bl_inv, o3, p⟩
  · subst e
    cases r3
    refine wpAny_truthy_bool ?_
    cases k with
    | false => exact ite_ff ⟨.bl false, H3, I3, rfl, po (.bl false) (.bl false) m3 G3 H3 q3 ((o1.trans o2).trans o3) (.bl false)⟩
    | true =>
      rw [if_pos rfl] at q3
      exact ite_tt (chain_last (q3.run (k2.trans o3) (so2.step o3) (wi2.step o3) I3 fun u4 s4 v4 d4 m4 G4 H4 p4 k4 o4 so4 wi4 r4 I4 rv4 =>
        p4 G4 H4 σ W Q v2 v4 k4.here wi4 ((r2.mono o3.le).mono o4.le) r4 (po.step (((o1.trans o2).trans o3).trans o4)) pins s4 u2 u4 I4 rv2 rv4))
theorem evt_chainD {op op' : CmpOp} (h : EvD M X KE a sl (fun x m1 => EvD M X KE b sl (fun y m2 => OpD M X KE (compareOp op) x y (fun z m3 => ∃ k, z = .bl k ∧ if k = true then EvD M X KE c sl (fun w m4 => OpD M X KE (compareOp op') y w (fun z m5 => ∃ k, z = .bl k ∧ PT' k m5) m4) m3 else PT' false m3) m2) m1) m)
    (hm : lastMarks [op, op'] [b, c] = false := by with_unfolding_all rfl) : EvT M X KE (.Compare a [op, op'] [b, c] pos) sl PT' m := by
  intro G0 H0 G H σ W Q ok so wi po pins s I
  refine isTrue_chain (h.run ok so wi I fun u s1 v d m1 G1 H1 p1 k1 o1 so1 wi1 r1 I1 rv1 => test_link (p1.run k1 so1 wi1 I1 fun u2 s2 v2 d2 m2 G2 H2 p2 k2 o2 so2 wi2 r2 I2 rv2 =>
    thn (p2 G2 H2 σ W (fun v H' => ∃ k m3 G3, v = .bl k ∧ Ok M G2 H2 G3 H' m3 ∧ if k = true then EvD M X KE c sl (fun w m4 => OpD M X KE (compareOp op') d2 w (fun z m5 => ∃ k, z = .bl k ∧ PT' k m5) m4) m3 else PT' false m3) v v2 k2.here wi2 (r1.mono o2.le) r2 (fun z d3 m3 G3 H3 p3 o3 r3 => ?_) pins s2 u u2 I2 rv1 rv2) fun c s3 ⟨z, H3, I3, r3, k, m3, G3, e, o3, q3⟩ => ?_)) hm
  · obtain ⟨k, rfl, p⟩ := p3
    exact ⟨k, m3, G3, r3.bl_inv, o3, p⟩
  · subst e
    cases r3
    refine wpAny_truthy_bool ?_
    cases k with
    | false => exact ite_ff ⟨H3, I3, po false m3 G3 H3 q3 ((o1.trans o2).trans o3)⟩
    | true =>
      rw [if_pos rfl] at q3
      refine ite_tt (test_last (q3.run (k2.trans o3) (so2.step o3) (wi2.step o3) I3 fun u4 s4 v4 d4 m4 G4 H4 p4 k4 o4 so4 wi4 r4 I4 rv4 =>
        thn (p4 G4 H4 σ W (fun v H' => ∃ k, v = .bl k ∧ Q k H') v2 v4 k4.here wi4 ((r2.mono o3.le).mono o4.le) r4 (fun z d5 m5 G5 H5 p5 o5 r5 => ?_) pins s4 u2 u4 I4 rv2 rv4) fun c s5 ⟨z, H5, I5, r5, k, e, q5⟩ => ?_))
      · obtain ⟨k, rfl, p⟩ := p5
        exact ⟨k, r5.bl_inv, po k m5 G5 H5 p ((((o1.trans o2).trans o3).trans o4).trans o5)⟩
      · subst e
        cases r5
        exact wpAny_truthy_bool ⟨H5, I5, q5⟩
end
end OZ
namespace OZ
open PySem L2
section
variable {M : Mode} {X : Cx} {scope : Scope} {N : List Str} {sc : Scope} {B : Bd} {j : Nat} {vs : List Nat} {elt : Expr} {sl : List Sl} {m : Nat} {x : Str} {p : Pos}
/-- the comprehension [elt for x in xs.map g], elt the value f of each, no drawing -/
theorem compd_mapL {α : Type} {i : Nat} (g f : α → Da) {xs : List α} {K : List Da → Nat → Prop} (hi : IdxAt N x i) (hN : sl.length = N.length) (hv : i ∈ vs) (h : ∀ a ∈ xs, ∀ (P : Da → Nat → Prop), P (f a) m → AllX X scope N sc B j fun X' => EvD M X' K0 elt (sl.set i (.v (g a))) P m) (k : K (xs.map f) m) (hl : (relabelS scope sc).names.lookup x = some .local := by with_unfolding_all rfl) :
    CompD (lcStep M X scope N sc B j vs (.Name x p) [] elt sl) (xs.map g) K m := by
  refine compd_inv lcstep_mono (fun n acc m' => m' = m ∧ acc = (xs.take n).map f) ⟨rfl, rfl⟩ ?_ fun r m' ⟨e1, e2⟩ => by rw [e1, e2, List.length_map, List.take_length]; exact k
  rintro n d acc m' e ⟨rfl, rfl⟩
  rw [List.getElem?_map] at e
  cases ha : xs[n]? with
  | none => rw [ha] at e; cases e
  | some a =>
    rw [ha] at e
    cases e
    refine lcstep_name (.of hi hN) hv (h a (List.mem_of_getElem? ha) _ ⟨rfl, ?_⟩) hl
    rw [List.take_succ, ha]
    simp
end
end OZ
namespace OZ
theorem zeT {b : Bool} {A B : Prop} (h : b = true) (k : A) : if b = true then A else B := by rw [h]; exact k
theorem zeF {b : Bool} {A B : Prop} (h : b = false) (k : B) : if b = true then A else B := by rw [h]; exact k
end OZ
namespace OZ
theorem intsD_get {n : Int} {i : Nat} {d : Da} (h : (intsD 0 n.toNat)[i]? = some d) : (i : Int) < n ∧ d = .int (0 + (i : Int)) := by
  have hl := (List.getElem?_eq_some_iff.mp h).1
  rw [intsD_len] at hl
  rw [intsD_at hl] at h
  exact ⟨by omega, by cases h; rfl⟩
end OZ

/-! ### slices -/
namespace OZ
open PySem L2 PySem.Spec PyProof.Rows
def cutD {α : Type} (xs : List α) (lo hi : Option Int) : List α := (xs.drop (HT.sIx xs.length 0 lo)).take (HT.sIx xs.length xs.length hi - HT.sIx xs.length 0 lo)
theorem cutD_from {α : Type} {xs : List α} {i : Int} (h : 0 ≤ i) : cutD xs (some i) none = xs.drop i.toNat := by
  unfold cutD
  simp only [HT.sIx]
  rw [if_neg (by omega)]
  by_cases z : i.toNat ≤ xs.length
  · rw [Nat.min_eq_left z, List.take_of_length_le (by rw [List.length_drop]; exact Nat.le_refl _)]
  · rw [Nat.min_eq_right (by omega), List.drop_eq_nil_of_le (Nat.le_refl _), List.drop_eq_nil_of_le (by omega)]
    simp
theorem cutD_to {α : Type} {xs : List α} {i : Int} (h : 0 ≤ i) : cutD xs none (some i) = xs.take i.toNat := by
  unfold cutD
  simp only [HT.sIx]
  rw [if_neg (by omega), List.drop_zero, Nat.sub_zero]
  by_cases z : i.toNat ≤ xs.length
  · rw [Nat.min_eq_left z]
  · rw [Nat.min_eq_right (by omega), List.take_length, List.take_of_length_le (by omega)]
theorem cutD_but {α : Type} {xs : List α} {i : Int} (h : i < 0) : cutD xs none (some i) = xs.take (i + xs.length).toNat := by
  unfold cutD
  simp only [HT.sIx]
  rw [if_pos h, List.drop_zero, Nat.sub_zero]
theorem reps_cut {K : PySem.W.Frag} {G : Hp} {vs : List V} {ds : List Da} (r : Reps K G vs ds) (lo hi : Option Int) : Reps K G (L2.cutV vs lo hi) (cutD ds lo hi) := by
  unfold L2.cutV cutD
  rw [r.length]
  exact (r.drop _).take _
def wpO (X : Cx) (e : Option Expr) : L2.TO := fun σ H Q => ∀ pins s, Inv X pins σ H s → wpAny (model X.prog X.w) X.A (evalPart e X.env) (fun u s' => ∃ o H', Inv X pins σ H' s' ∧ IsPart u o ∧ Q o H') X.xe s
theorem po_wp {X : Cx} {e : Option Expr} : L2.PO X e (wpO X e) := ⟨fun pins s _ _ _ I h => h pins s I⟩
theorem wpO.of {X : Cx} {e : Option Expr} {t : L2.TO} {σ : L2.St} {H : Hp} {Q : Option Int → Hp → Prop} (p : L2.PO X e t) (h : t σ H Q) : wpO X e σ H Q := fun pins s I => p.run pins s σ H Q I h
section
variable {M : Mode} {X : Cx} {KE : Kx} {a b c e : Expr} {o1 o2 : Option Expr} {es : List Expr} {sl : List Sl} {P : Da → Nat → Prop} {m : Nat} {pos p2 : Pos}
variable (M X KE) in
def EvP (e : Option Expr) (sl : List Sl) (P : Option Int → Nat → Prop) (m : Nat) : Prop :=
  ∀ (G0 H0 G H : Hp) (σ : L2.St) (W : WX) (Q : Option Int → Hp → Prop), Ok M G0 H0 G H m → SOk X.K M H0 G H σ sl → Wis M X KE G H σ W → (∀ o m' G' H', P o m' → Ok M G H G' H' m' → Q o H') → wpO X e σ H Q
theorem evp_none {PO' : Option Int → Nat → Prop} (h : PO' none m) : EvP M X KE none sl PO' m := fun G0 H0 G H σ W Q ok so wi po => wpO.of po_none (po none m G H h ok.here)
theorem evp_some {PO' : Option Int → Nat → Prop} (h : EvD M X KE e sl (fun y m1 => ∃ i : Int, y = .int i ∧ PO' (some i) m1) m) : EvP M X KE (some e) sl PO' m := fun G0 H0 G H σ W Q ok so wi po =>
  wpO.of (po_some pe_wp) (h G0 H0 G H σ W _ ok so wi fun v d m' G' H' ⟨i, e, p⟩ o r => by subst e; exact ⟨i, r.int_inv, po _ m' G' H' p o⟩)
/-- what x[lo:hi] tells -/
def SlD (x : Da) (lo hi : Option Int) (P : Da → Nat → Prop) (m : Nat) : Prop := match x with
  | .lst ds => P (.lst (cutD ds lo hi)) m
  | .tup ds => ¬ (HT.sIx ds.length 0 lo = 0 ∧ HT.sIx ds.length ds.length hi = ds.length) ∧ P (.tup (cutD ds lo hi)) m
  | .str z => z.length ≤ sizeLine ∧ P (.str (cutS z lo hi)) m
  | _ => False
theorem evd_slice (h : EvD M X KE e sl (fun x m1 => EvP M X KE o1 sl (fun lo m2 => EvP M X KE o2 sl (fun hi m3 => SlD x lo hi P m3) m2) m1) m) : EvD M X KE (.Subscript e (.Slice o1 o2 none p2) pos) sl P m := fun G0 H0 G H σ W Q ok so wi po =>
  wpE.of (pe_slice (sl_list.or (sl_tup.or sl_str)) pe_wp po_wp po_wp) (h G0 H0 G H σ W _ ok so wi fun v d m1 G1 H1 q1 k1 r1 => q1 G0 H0 G1 H1 σ W _ (ok.trans k1) (so.step k1) (wi.step k1) fun lo m2 G2 H2 q2 k2 =>
    q2 G0 H0 G2 H2 σ W _ ((ok.trans k1).trans k2) ((so.step k1).step k2) ((wi.step k1).step k2) fun hi m3 G3 H3 q3 k3 => by
    have kk := (k1.trans k2).trans k3
    have r3 := (r1.mono k2.le).mono k3.le
    cases r3 with
    | @lst a vs ds q r =>
      refine .inl ⟨a, vs, rfl, sq_l (kk.sub _ _ q), fun p hp => ?_⟩
      have al := kk.here.alloc (o := .lst (L2.cutV vs lo hi)) hp
      exact po _ _ m3 _ _ q3 (kk.trans al) (.lst upd_same ((reps_cut r lo hi).mono al.le))
    | @tup a vs ds q r =>
      refine .inr (.inl ⟨a, vs, rfl, sqT_same kk.sub q, by rw [r.length]; exact q3.1, fun p hp => ?_⟩)
      have al := kk.here.alloc (o := .tup (L2.cutV vs lo hi)) hp
      exact po _ _ m3 _ _ q3.2 (kk.trans al) (.tup (sq_t upd_same) ((reps_cut r lo hi).mono al.le))
    | str z => exact .inr (.inr ⟨z, rfl, q3.1, po _ _ m3 _ _ q3.2 kk (.str _)⟩)
    | _ => exact q3.elim)
/-- xs[::-1] -/
theorem evd_revL {k : Nat} {p1 p3 : Pos} (h : EvD M X KE e sl (fun x m1 => ∃ ds, x = .lst ds ∧ P (.lst ds.reverse) m1) m) : EvD M X KE (.Subscript e (.Slice none none (some (.UnaryOp .USub (.Constant (.int 1) k p1) p2)) p3) pos) sl P m := fun G0 H0 G H σ W Q ok so wi po =>
  wpE.of (pe_revL pe_wp) (h G0 H0 G H σ W _ ok so wi fun v d m1 G1 H1 ⟨ds, e, q1⟩ k1 r1 => by
    subst e
    obtain ⟨a, vs, rfl, q, r⟩ := r1.lst_inv
    refine ⟨a, vs, rfl, sq_l (k1.sub _ _ q), fun p hp => ?_⟩
    have al := k1.here.alloc (o := .lst vs.reverse) hp
    exact po _ _ m1 _ _ q1 (k1.trans al) (.lst upd_same (r.rev.mono al.le)))
end
/-! lists, tuples, texts and locked dicts walked over -/
section
variable {M : Mode} {X : Cx} {KE : Kx} {tg e : Expr} {es : List Expr} {sl : List Sl} {KI : List Da → Nat → Prop} {m : Nat} {pos p apos cpos : Pos} {N : List Str} {sc : Scope} {B : Bd}
def chrsD (z : Str) : List Da := z.cps.toList.map fun c => Da.str ⟨#[c]⟩
theorem walkd_str {K : PySem.W.Frag} {G1 : Hp} {z : Str} : WalkD M K (Its z) (chrsD z) G1 := by
  refine ⟨_, _, by show Walk (Its z) (chrsD z).length _ _; rw [show (chrsD z).length = z.cps.size by simp [chrsD]]; exact walk_str, fun _ _ _ _ _ => trivial, fun i H x H' G m hi y le ok => ?_⟩
  obtain ⟨rfl, c, hc, rfl⟩ := y
  refine ⟨G, _, ok, ?_, .str _⟩
  unfold chrsD
  rw [List.getElem?_map, Array.getElem?_toList, hc]
  rfl
def keysD (ks : List (Key × Da)) : List Da := ks.map fun kv => keyD kv.1
def valsD (ks : List (Key × Da)) : List Da := ks.map fun kv => kv.2
def itemsD (ks : List (Key × Da)) : List Da := ks.map fun kv => .tup [keyD kv.1, kv.2]
theorem key_rep {K : PySem.W.Frag} {G : Hp} (k : Key) : Rep K G (kV k) (keyD k) := by
  cases k <;> constructor
theorem RepK.get' {K : PySem.W.Frag} {G : Hp} : ∀ {kvs : List (Key × V)} {ks : List (Key × Da)} {i : Nat} {k : Key} {v : V}, RepK K G kvs ks → kvs[i]? = some (k, v) → ∃ d, ks[i]? = some (k, d) ∧ Rep K G v d
  | _, _, _, _, _, .nil, e => by simp at e
  | _, _, 0, _, _, .cons a _, e => by simp at e; obtain ⟨rfl, rfl⟩ := e; exact ⟨_, rfl, a⟩
  | _, _, i + 1, _, _, .cons _ b, e => by
    obtain ⟨d, h1, h2⟩ := RepK.get' b (by simpa using e)
    exact ⟨d, by simpa using h1, h2⟩
theorem RepK.length {K : PySem.W.Frag} {G : Hp} : ∀ {kvs : List (Key × V)} {ks : List (Key × Da)}, RepK K G kvs ks → kvs.length = ks.length
  | _, _, .nil => rfl
  | _, _, .cons _ b => by simp [RepK.length b]
theorem walkd_keys {K : PySem.W.Frag} {G1 : Hp} {a : Addr} {o : Obj} {kvs : List (Key × V)} {ks : List (Key × Da)} (q : G1 a = some (.frz o (.dK kvs))) (r : RepK K G1 kvs ks) : WalkD M K (Itk a o kvs) (keysD ks) G1 := by
  refine ⟨_, _, by show Walk (Itk a o kvs) (keysD ks).length _ _; rw [show (keysD ks).length = kvs.length by simp [keysD, r.length]]; exact walk_keys, fun G H m le ok => ok.sub _ _ (le _ _ q), fun i H x H' G m hi y le ok => ?_⟩
  obtain ⟨rfl, k, v, hk, rfl⟩ := y
  obtain ⟨d, hd, _⟩ := r.get' hk
  exact ⟨G, _, ok, by unfold keysD; rw [List.getElem?_map, hd]; rfl, key_rep k⟩
theorem walkd_values {K : PySem.W.Frag} {G1 : Hp} {a : Addr} {o : Obj} {kvs : List (Key × V)} {ks : List (Key × Da)} (q : G1 a = some (.frz o (.dK kvs))) (r : RepK K G1 kvs ks) : WalkD M K (Itd a o kvs) (valsD ks) G1 := by
  refine ⟨_, _, by show Walk (Itd a o kvs) (valsD ks).length _ _; rw [show (valsD ks).length = kvs.length by simp [valsD, r.length]]; exact walk_values, fun G H m le ok => ok.sub _ _ (le _ _ q), fun i H x H' G m hi y le ok => ?_⟩
  obtain ⟨rfl, k, hk⟩ := y
  obtain ⟨d, hd, rd⟩ := r.get' hk
  exact ⟨G, _, ok, by unfold valsD; rw [List.getElem?_map, hd]; rfl, rd.mono le⟩
theorem walkd_items {K : PySem.W.Frag} {G1 : Hp} {a : Addr} {o : Obj} {kvs : List (Key × V)} {ks : List (Key × Da)} (q : G1 a = some (.frz o (.dK kvs))) (r : RepK K G1 kvs ks) : WalkD M K (Iti a o kvs) (itemsD ks) G1 := by
  refine ⟨_, _, by show Walk (Iti a o kvs) (itemsD ks).length _ _; rw [show (itemsD ks).length = kvs.length by simp [itemsD, r.length]]; exact walk_items, fun G H m le ok => ok.sub _ _ (le _ _ q), fun i H x H' G m hi y le ok => ?_⟩
  obtain ⟨T, x1, y1, rfl, hT, rfl, e1, e2⟩ := y
  dsimp only at e1 e2
  cases hk : kvs[i]? with
  | none => rw [hk] at e2; cases e2
  | some kv =>
    rw [hk] at e1 e2
    cases e1
    cases e2
    obtain ⟨d, hd, rd⟩ := r.get' (k := kv.1) (v := kv.2) hk
    have al := ok.alloc (o := .tup [kV kv.1, kv.2]) hT
    exact ⟨_, .tup [keyD kv.1, d], al, by unfold itemsD; rw [List.getElem?_map, hd]; rfl, .tup (sq_t upd_same) (.cons (key_rep _) (.cons ((rd.mono le).mono al.le) .nil))⟩
/-- what a for walks over -/
def SeqD (KI : List Da → Nat → Prop) : Da → Nat → Prop
  | .lst ds, m => KI ds m
  | .tup ds, m => KI ds m
  | .str z, m => KI (chrsD z) m
  | .dct ks, m => KI (keysD ks) m
  | _, _ => False
theorem iter_seq (h : EvD M X KE e sl (SeqD KI) m) : IterD M X KE tg e sl KI m := by
  intro G0 H0 G H σ W R ok so wi k pins s I
  refine h.run ok so wi I fun u s1 v d m1 G1 H1 p1 k1 o1 so1 wi1 r1 I1 rv1 => ?_
  cases r1 with
  | @lst a vs ds q r =>
    cases rv1
    obtain ⟨its, rv, pq, hz⟩ := I1.list (sq_l (K := X.K) (o1.sub _ _ q))
    refine wpAny_pyIter_list pq.isList ?_
    refine ⟨s1.heap.objs.size, [s1.heap.objs.size], _, _, H1, rfl, I1.kept (t' := s1.toks) fun b o e => Heap.get?_push_of_some _ e, turn_list a _, ⟨_, Heap.get?_push_size _ rfl, rfl, rfl⟩, fun b hb => ?_, k _ ds m1 G1 H1 p1 o1 (walkd_list q r)⟩
    have e : b = s1.heap.objs.size := by simpa using hb
    subst e
    exact I1.fpOk (Nat.le_refl _) (I1.hok.fresh (Nat.le_refl _))
  | @tup a vs ds q r =>
    cases rv1
    obtain ⟨its, rv, pq, hz⟩ := I1.tuple (sqT_same o1.sub q)
    refine wpAny_pyIter_tuple (show s1.heap.IsTuple a its.toArray from pq) ?_
    refine ⟨s1.heap.objs.size, [s1.heap.objs.size], _, _, H1, rfl, I1.kept (t' := s1.toks) fun b o e => Heap.get?_push_of_some _ e, turn_tuple a _, ⟨_, Heap.get?_push_size _ rfl, rfl, rfl⟩, fun b hb => ?_, k _ ds m1 G1 H1 p1 o1 (walkd_tup q r)⟩
    have e : b = s1.heap.objs.size := by simpa using hb
    subst e
    exact I1.fpOk (Nat.le_refl _) (I1.hok.fresh (Nat.le_refl _))
  | str x =>
    obtain ⟨t, rfl⟩ := rv1
    have q := k _ _ m1 G1 H1 p1 o1 (walkd_str (K := X.K) (G1 := G1) (z := x))
    cases ha : x.cps.all (· < 128)
    · exact wpAny_pyIter_wide ha (pi_one (tk := s1.toks) I1 _ (turn_str _ x t "str_iterator" (.inr rfl)) ⟨_, Heap.get?_push_size _ rfl, rfl, rfl⟩ q)
    · exact wpAny_pyIter_ascii ha (pi_one (tk := s1.toks) I1 _ (turn_str _ x t "str_ascii_iterator" (.inl rfl)) ⟨_, Heap.get?_push_size _ rfl, rfl, rfl⟩ q)
  | @dct a o kvs ks q r =>
    cases rv1
    have q2 := k _ _ m1 G1 H1 p1 o1 (walkd_keys q r)
    obtain ⟨hs, hgd, hx, es, ep, vs, hdt, hsz, kv, hm⟩ := I1.frzK (o1.sub _ _ q)
    refine iter_keys hs hgd hx hdt (pi_one (tk := s1.toks) I1 _ (turn_keys _ hdt) ⟨_, Heap.get?_push_size _ rfl, rfl, ?_⟩ q2)
    rw [hsz] <;> rfl
  | _ => exact p1.elim
theorem iter_values (h : EvD M X KE e sl (fun d m1 => ∃ ks, d = .dct ks ∧ KI (valsD ks) m1) m) (hbase : attributeBase e "values" X.env (eval e X.env) = eval e X.env := by with_unfolding_all rfl) (hline : (apos.endLine == cpos.line) = true := by with_unfolding_all rfl) :
    IterD M X KE tg (.Call (.Attribute e "values" apos) [] [] cpos) sl KI m := fun G0 H0 G H σ W R ok so wi k =>
  wpI.of (pi_values pe_wp hbase hline) (h G0 H0 G H σ W _ ok so wi fun v d m' G' H' ⟨ks, e, p⟩ o r => by
    subst e
    obtain ⟨a, ob, kvs, rfl, q, t⟩ := r.dct_inv
    exact ⟨a, ob, kvs, rfl, o.sub _ _ q, k _ _ m' G' H' p o (walkd_values q t)⟩)
theorem iter_items {elts : List Expr} {kk : Nat} {tpos : Pos} (h : EvD M X KE e sl (fun d m1 => ∃ ks, d = .dct ks ∧ KI (itemsD ks) m1) m) (hbase : attributeBase e "items" X.env (eval e X.env) = eval e X.env := by with_unfolding_all rfl) (hline : (apos.endLine == cpos.line) = true := by with_unfolding_all rfl) :
    IterD M X KE (.Tuple elts kk tpos) (.Call (.Attribute e "items" apos) [] [] cpos) sl KI m := fun G0 H0 G H σ W R ok so wi k =>
  wpI.of (pi_items pe_wp hbase hline) (h G0 H0 G H σ W _ ok so wi fun v d m' G' H' ⟨ks, e, p⟩ o r => by
    subst e
    obtain ⟨a, ob, kvs, rfl, q, t⟩ := r.dct_inv
    exact ⟨a, ob, kvs, rfl, o.sub _ _ q, k _ _ m' G' H' p o (walkd_items q t)⟩)
end
end OZ

/-! isinstance -/
namespace OZ
open PySem L2 PySem.Spec PyProof.Rows
structure TyC (K : PySem.W.Frag) (C : Addr) : Prop where
  cl : Cls K C
  ha : PySem.W.findIn K (.ref C) "__class__" = some (some (.builtin "object.__class__"))
  hn : PySem.W.specialIn K (.builtin "object.__class__") "__get__" = some (some (.builtin "getset_descriptor.__get__"))
  htk : PySem.W.takesIn K (.builtin "object.__class__") = some true
  hm : PySem.W.mroIn K C (.type "object") = some true
inductive TyDa (K : PySem.W.Frag) : Da → Value → Prop
  | non : TyDa K .non (.type "NoneType")
  | bl (b : Bool) : TyDa K (.bl b) (.type "bool")
  | int (i : Int) : TyDa K (.int i) (.type "int")
  | str (s : Str) : TyDa K (.str s) (.type "str")
  | lst (ds : List Da) : TyDa K (.lst ds) (.type "list")
  | tup (ds : List Da) : TyDa K (.tup ds) (.type "tuple")
  | dct (ks : List (Key × Da)) : TyDa K (.dct ks) (.type "dict")
  | obj {C : Addr} (fs : List (Str × Da)) (c : TyC K C) : TyDa K (.obj C fs) (.ref C)
theorem TyDa.x {K : PySem.W.Frag} {G H : Hp} {v : V} {d : Da} {t : Value} (s : Same G H) (r : Rep K G v d) (h : TyDa K d t) : TyX K H v t := by
  cases h with
  | non => cases r; exact .base .non
  | bl b => cases r; exact .base (.bl _)
  | int i => cases r; exact .base (.int _)
  | str i => cases r; exact .base (.str _)
  | lst ds => cases r with | lst q _ => exact .base (.lst (s _ _ q))
  | tup ds =>
    cases r with
    | tup q _ =>
      rcases q with (q | ⟨o, q⟩) | ⟨o, its, n, q, q2, _⟩
      · exact .base (.tup (s _ _ q))
      · exact .fTuple (s _ _ q)
      · exact .kTuple q q2
  | dct ks => cases r with | dct q _ => exact .fDict (s _ _ q)
  | obj fs c => cases r with | obj q _ => exact .base (.ins (s _ _ q) c.cl c.ha c.hn c.htk c.hm)
inductive ClsDa : Da → Value → Prop
  | ty (n : String) : ClsDa (.ty n) (.type n)
  | own (C : Addr) : ClsDa (.ref C) (.ref C)
structure KitG (K : PySem.W.Frag) (t u : Value) (b : Bool) : Prop where
  k : PySem.W.kitOne K t u = some b
theorem cd_isi {M : Mode} {X : Cx} {KE : Kx} {P : Da → Nat → Prop} {m : Nat} {N : List Str} {sc : Scope} {B : Bd} {x c : Da} {t u : Value} {b : Bool} (cx : Ctx X N sc B) (hx : TyDa B.K x t) (hc : ClsDa c u) (hk : KitG B.K t u b) (k : P (.bl b) m) : CallD M X KE (.builtin "isinstance") [x, c] P m := by
  have eb := cx.b
  subst eb
  exact .of call_isi fun G H _ vs ok r po => by
    obtain ⟨v, w, rfl, r1, r2⟩ := reps2 r
    have hcv : ClsV w u := by
      cases hc with
      | ty n => cases r2; exact .ty n
      | own C => cases r2; exact .own C
    exact ⟨v, w, t, u, b, rfl, hcv, hx.x ok.sub r1, hk.k, po _ _ m G H k ok (.bl b)⟩
end OZ
namespace OZ
open PySem L2 PySem.Spec PyProof.Rows
structure EqG (M : Mode) (B : Bd) (k : Nat) (C : Addr) (F : FD) : Prop where
  ex : ∃ f : Addr, FnG M B k f 2 F ∧ OS.EqF B.K C f
theorem EqG.lift {M : Mode} {B : Bd} {k : Nat} {C : Addr} {F : FD} (c : EqG pureM B k C F) : EqG M B k C (FP F) := by
  obtain ⟨f, h1, h2⟩ := c.ex
  exact ⟨f, h1.lift, h2⟩
section
variable {M : Mode} {X : Cx} {KE : Kx} {P : Da → Nat → Prop} {m k j : Nat} {C D : Addr} {F : FD} {fs gs : List (Str × Da)} {B : Bd} {N : List Str} {sc : Scope}
theorem opd_eqG (cx : Ctx X N sc B) (c : EqG M B k C F) (hr : Room j X.A) (h : F [.obj C fs, .obj C gs] (fun d m1 => ∃ b, d = .bl b ∧ P (.bl b) m1) KE m) (hk : k ≤ j := by with_unfolding_all decide) : OpD M X KE (compareOp .Eq) (.obj C fs) (.obj C gs) P m := by
  have eb := cx.b
  obtain ⟨f, h1, h2⟩ := c.ex
  subst eb
  exact opd_eqO cx h1 h2 (.inl rfl) hr (by have := L2.Room.units hr; omega) h hk
theorem opd_neG (cx : Ctx X N sc B) (c : EqG M B k C F) (hr : Room j X.A) (h : F [.obj C fs, .obj C gs] (fun d m1 => ∃ b, d = .bl b ∧ P (.bl (!b)) m1) KE m) (hk : k + 1 ≤ j := by with_unfolding_all decide) : OpD M X KE (compareOp .NotEq) (.obj C fs) (.obj C gs) P m := by
  have eb := cx.b
  obtain ⟨f, h1, h2⟩ := c.ex
  subst eb
  exact opd_neO cx h1 h2 (.inl rfl) hr (by have := L2.Room.units hr; omega) h hk
theorem opd_eqX (cx : Ctx X N sc B) (c : EqG M B k C F) (hD : PySem.W.subIn B.K (.ref D) (.ref C) = some false) (hr : Room j X.A) (h : F [.obj C fs, .obj D gs] (fun d m1 => ∃ b, d = .bl b ∧ P (.bl b) m1) KE m) (hk : k ≤ j := by with_unfolding_all decide) : OpD M X KE (compareOp .Eq) (.obj C fs) (.obj D gs) P m := by
  have eb := cx.b
  obtain ⟨f, h1, h2⟩ := c.ex
  subst eb
  exact opd_eqO cx h1 h2 (.inr hD) hr (by have := L2.Room.units hr; omega) h hk
theorem opd_neX (cx : Ctx X N sc B) (c : EqG M B k C F) (hD : PySem.W.subIn B.K (.ref D) (.ref C) = some false) (hr : Room j X.A) (h : F [.obj C fs, .obj D gs] (fun d m1 => ∃ b, d = .bl b ∧ P (.bl (!b)) m1) KE m) (hk : k + 1 ≤ j := by with_unfolding_all decide) : OpD M X KE (compareOp .NotEq) (.obj C fs) (.obj D gs) P m := by
  have eb := cx.b
  obtain ⟨f, h1, h2⟩ := c.ex
  subst eb
  exact opd_neO cx h1 h2 (.inr hD) hr (by have := L2.Room.units hr; omega) h hk
theorem opd_mulG (cx : Ctx X N sc B) (c : SpecG M B k C "__mul__" 2 F) (hc : PySem.W.selfFirst B.K C = true) (hr : Room j X.A) (h : F [.obj C fs, .obj C gs] P KE m) (hk : k ≤ j := by with_unfolding_all decide) : OpD M X KE (binaryOp .Mult) (.obj C fs) (.obj C gs) P m := by
  have eb := cx.b
  subst eb
  exact opd_own2 (op := .Mult) cx c hc hr h hk
end
end OZ
namespace OZ
open PySem L2
section
variable {P : Da → Nat → Prop} {KI : List Da → Nat → Prop} {m : Nat} {ds es : List Da} {lo hi : Option Int}
theorem sld_lst (h : P (.lst (cutD ds lo hi)) m) : SlD (.lst ds) lo hi P m := h
theorem sld_str {z : Str} (hz : z.length ≤ sizeLine) (h : P (.str (cutS z lo hi)) m) : SlD (.str z) lo hi P m := ⟨hz, h⟩
theorem sld_tup' (h0 : ¬ (HT.sIx ds.length 0 lo = 0 ∧ HT.sIx ds.length ds.length hi = ds.length)) (e : cutD ds lo hi = es) (h : P (.tup es) m) : SlD (.tup ds) lo hi P m := ⟨h0, by rw [e]; exact h⟩
theorem sld_lst' (e : cutD ds lo hi = es) (h : P (.lst es) m) : SlD (.lst ds) lo hi P m := by rw [← e] at h; exact h
theorem seqd_lst (h : KI ds m) : SeqD KI (.lst ds) m := h
theorem seqd_tup (h : KI ds m) : SeqD KI (.tup ds) m := h
theorem seqd_str {z : Str} (h : KI (chrsD z) m) : SeqD KI (.str z) m := h
theorem seqd_dct {ks : List (Key × Da)} (h : KI (keysD ks) m) : SeqD KI (.dct ks) m := h
end
end OZ
namespace OZ
open PySem L2
theorem kit_self {K : PySem.W.Frag} (C : Addr) : KitG K (.ref C) (.ref C) true := ⟨by unfold PySem.W.kitOne; rw [if_pos (by simp)]⟩
theorem kit_T {K : PySem.W.Frag} {t : Value} {T : String} {b : Bool} (h : PySem.W.subIn K t (.type T) = some b) (hn : (t == .type T) = false) (hm : PySem.W.kitMeta T = true) : KitG K t (.type T) b := by
  refine ⟨?_⟩
  unfold PySem.W.kitOne
  rw [if_neg (by rw [hn]; exact Bool.false_ne_true)]
  show (if PySem.W.kitMeta T = true then PySem.W.subIn K t (.type T) else none) = some b
  rw [if_pos hm]
  exact h
theorem kit_C {K : PySem.W.Frag} {t : Value} {C : Addr} {b : Bool} (c : Cls K C) (h1 : PySem.W.typeIn K (.ref C) = some (.type "type")) (h : PySem.W.subIn K t (.ref C) = some b) (hn : (t == .ref C) = false) : KitG K t (.ref C) b := by
  refine ⟨?_⟩
  unfold PySem.W.kitOne
  rw [if_neg (by rw [hn]; exact Bool.false_ne_true)]
  obtain ⟨cd, hc, _⟩ := PySem.W.any_some c.hd
  show (if ((PySem.W.clsIn K C).isSome && PySem.W.typeIn K (.ref C) == some (.type "type")) = true then PySem.W.subIn K t (.ref C) else none) = some b
  rw [if_pos (by rw [hc, h1] <;> rfl)]
  exact h
end OZ

/-! ### dicts made by comprehensions; sorted -/
namespace OZ
open PySem L2 PySem.Spec PyProof.Rows
def putD (ks : List (Key × Da)) (k : Key) (v : Da) : List (Key × Da) :=
  if (ks.any fun kv => decide (kv.1 = k)) = true then ks.map (fun kv => if kv.1 = k then (kv.1, v) else kv) else ks ++ [(k, v)]
theorem repK_any {K : PySem.W.Frag} {G : Hp} {k : Key} : ∀ {kvs : List (Key × V)} {ks : List (Key × Da)}, RepK K G kvs ks → (kvs.any fun kv => decide (kv.1 = k)) = (ks.any fun kv => decide (kv.1 = k))
  | _, _, .nil => rfl
  | _, _, .cons _ b => by simp only [List.any_cons, repK_any b]
theorem repK_map {K : PySem.W.Frag} {G : Hp} {k : Key} {v : V} {d : Da} (r : Rep K G v d) : ∀ {kvs : List (Key × V)} {ks : List (Key × Da)}, RepK K G kvs ks → RepK K G (kvs.map fun kv => if kv.1 = k then (kv.1, v) else kv) (ks.map fun kv => if kv.1 = k then (kv.1, d) else kv)
  | _, _, .nil => .nil
  | _, _, .cons (k := k0) a b => by
    simp only [List.map_cons]
    by_cases h : k0 = k
    · rw [if_pos h, if_pos h]; exact .cons r (repK_map r b)
    · rw [if_neg h, if_neg h]; exact .cons a (repK_map r b)
theorem repK_app {K : PySem.W.Frag} {G : Hp} : ∀ {kvs kws : List (Key × V)} {ks ls : List (Key × Da)}, RepK K G kvs ks → RepK K G kws ls → RepK K G (kvs ++ kws) (ks ++ ls)
  | _, _, _, _, .nil, r => r
  | _, _, _, _, .cons a b, r => .cons a (repK_app b r)
theorem repK_put {K : PySem.W.Frag} {G : Hp} {k : Key} {v : V} {d : Da} {kvs : List (Key × V)} {ks : List (Key × Da)} (b : RepK K G kvs ks) (r : Rep K G v d) : RepK K G (putK kvs k v) (putD ks k d) := by
  unfold putK putD
  rw [repK_any b]
  split
  · exact repK_map r b
  · exact repK_app b (.cons r .nil)
/-- a dict comprehension over anything walked -/
theorem dc_it {J : It} {n : Nat} {G : Hp → Prop} {Y : Nat → Hp → V → Hp → Prop} (w : Walk J n G Y) {g : TG} {tt : TT} {tk tv : TE} {vs : List Nat} {σ : L2.St} {H1 : Hp} {D : Addr} {Qd : Hp → Prop} (Pv : Nat → Hp → Prop) (h0 : Pv 0 (L2.upd H1 D (.dK []))) (hG : ∀ i H, i ≤ n → Pv i H → G H)
    (hs : ∀ i x H H', i < n → Pv i H → Y i H x H' → g x (wipe σ vs) H' fun σ2 H2 => wipe σ2 vs = wipe σ vs ∧ tt σ2 H2 fun b H3 =>
      if b = true then tk σ2 H3 fun y H4 => tv σ2 H4 fun z H5 => ∃ kvs k, y = kV k ∧ H5 D = some (.dK kvs) ∧ kvs.length < sizeLine ∧ Pv (i + 1) (L2.upd H5 D (.dK (putK kvs k z))) else Pv (i + 1) H3) (hd : ∀ H, Pv n H → Qd H) :
    ∃ W : Nat → Nat → Hp → Prop, (∃ m, W 0 m (L2.upd H1 D (.dK []))) ∧ ∀ i m H, W i m H →
      (J.stop i H ∧ Qd H) ∨ (J.go i H ∧ ∃ Nx : Hp → Prop, (∀ H', Nx H' → ∃ m', m' < m ∧ W (i + 1) m' H') ∧ ∀ x H', J.yld i H x H' → g x (wipe σ vs) H' fun σ2 H2 => wipe σ2 vs = wipe σ vs ∧ tt σ2 H2 fun b H3 =>
        if b = true then tk σ2 H3 fun y H4 => tv σ2 H4 fun z H5 => ∃ kvs k, y = kV k ∧ H5 D = some (.dK kvs) ∧ kvs.length < sizeLine ∧ Nx (L2.upd H5 D (.dK (putK kvs k z))) else Nx H3) := by
  refine ⟨fun i m H => m = n - i ∧ i ≤ n ∧ Pv i H, ⟨n, by simp, Nat.zero_le _, h0⟩, ?_⟩
  rintro i m H ⟨rfl, hi, p⟩
  have q := hG i H hi p
  by_cases hlt : i < n
  · refine .inr ⟨w.goes i H hlt q, Pv (i + 1), fun H' p' => ⟨n - (i + 1), by omega, rfl, hlt, p'⟩, fun x H' y => ?_⟩
    exact hs i x H H' hlt p (w.yields i H x H' hlt q y)
  · have e : i = n := by omega
    subst e
    exact .inl ⟨w.stops H q, hd H p⟩
/-- a dict comprehension, item by item, from what is there already -/
def CompK (step : Da → (Option (Key × Da) → Nat → Prop) → Nat → Prop) : List Da → List (Key × Da) → (List (Key × Da) → Nat → Prop) → Nat → Prop
  | [], acc, K, m => K acc m
  | d :: ds, acc, K, m => step d (fun o m1 => CompK step ds (match o with | none => acc | some kv => putD acc kv.1 kv.2) K m1) m
def dcStep (M : Mode) (X : Cx) (scope : Scope) (N : List Str) (sc : Scope) (B : Bd) (j : Nat) (vs : List Nat) (tg : Expr) (ifs : List Expr) (kx vx : Expr) (sl : List Sl) : Da → (Option (Key × Da) → Nat → Prop) → Nat → Prop := fun d k m =>
  ∃ sl' is, (AllX X scope N sc B j fun X' => Tg X' N (relabelS scope sc) tg d sl sl' is) ∧ (∀ i ∈ is, i ∈ vs) ∧
    lcIf M X scope N sc B j ifs sl' (fun b m1 => if b = true then AllX X scope N sc B j fun X' => EvD M X' K0 kx sl' (fun y m2 => ∃ q, y = keyD q ∧ AllX X scope N sc B j fun X' => EvD M X' K0 vx sl' (fun z m3 => k (some (q, z)) m3) m2) m1 else k none m1) m
section
variable {M : Mode} {X : Cx} {KE : Kx} {tg iter kx vx : Expr} {ifs : List Expr} {scope : Scope} {sl sw : List Sl} {P : Da → Nat → Prop} {m j : Nat} {pos : Pos} {N : List Str} {sc : Scope} {B : Bd} {own : List (Str × Nat)}
theorem putD_len (ks : List (Key × Da)) (k : Key) (v : Da) : (putD ks k v).length ≤ ks.length + 1 := by
  unfold putD
  split <;> simp
theorem dc_run (cx : Ctx X N sc B) (hr : Room j X.A) (hc : X.calm = true) (wp : WipeS N own sl sw) {G0 H0 G H G1 H1 : Hp} {σ : L2.St} {m1 : Nat} {J : It} {ds : List Da} {Q : VK} (ok : Ok M G0 H0 G H m) (so : SOk X.K M H0 G H σ sl) (o1 : Ok M G H G1 H1 m1) (wk : WalkD M X.K J ds G1) (hl : ds.length < sizeLine)
    (q : CompK (dcStep M X scope N sc B j (own.map (·.2)) tg ifs kx vx sw) ds [] (fun r m2 => P (.dct r) m2) m1) (D : Addr) (hD : H1 D = none)
    (fin : ∀ out m' G' H', P (.dct out) m' → Ok M G H G' H' m' → G' D = none → (H D = none ∨ M.X H D) → ¬ M.X H' D → RepM X.K G' H' D (.dct out) → Q (.ref D) H') :
    ∃ W : Nat → Nat → Hp → Prop, (∃ m, W 0 m (L2.upd H1 D (.dK []))) ∧ ∀ i m H, W i m H → (J.stop i H ∧ Q (.ref D) H) ∨ (J.go i H ∧ ∃ Nx : Hp → Prop, (∀ H', Nx H' → ∃ m', m' < m ∧ W (i + 1) m' H') ∧ ∀ x H', J.yld i H x H' →
      gBlk X scope tg x (wipe σ (own.map (·.2))) H' fun σ2 H2 => wipe σ2 (own.map (·.2)) = wipe σ (own.map (·.2)) ∧
        tBlk X scope ifs σ2 H2 fun b H3 =>
          if b = true then eBlk X scope kx σ2 H3 fun y H4 => eBlk X scope vx σ2 H4 fun z H5 => ∃ kvs k, y = kV k ∧ H5 D = some (.dK kvs) ∧ kvs.length < sizeLine ∧ Nx (L2.upd H5 D (.dK (putK kvs k z))) else Nx H3) := by
  obtain ⟨Gd, Y, wlk, hG, hY⟩ := wk
  have nx1 : ¬ M.X H1 D := fun x => by obtain ⟨u, e⟩ := M.there _ _ _ o1.inv x; rw [hD] at e; cases e
  have gD : G1 D = none := by
    cases e : G1 D with
    | none => rfl
    | some u => rw [o1.sub _ _ e] at hD; cases hD
  have hD0 : H D = none ∨ M.X H D := by
    cases e : H D with
    | none => exact .inl rfl
    | some u =>
      by_cases x : M.X H D
      · exact .inr x
      · rw [(o1.keep D u e x).1] at hD; cases hD
  have fr : ∀ i a, Mt sw i → (wipe σ (own.map (·.2)))[i]? = some (some (.ref a)) → a ≠ D := fun i a mt e z => by
    obtain ⟨u, h1, h2⟩ := (wp.ok so).held mt e
    subst z
    rcases hD0 with h | h
    · rw [h] at h1; cases h1
    · exact h2 h
  have al : Ok M G1 H1 G1 (L2.upd H1 D (.dK [])) m1 := o1.here.allocM hD
  let Pv : Nat → Hp → Prop := fun i H' => ∃ G' m' acc out, Ok M G H G' H' m' ∧ Same G1 G' ∧ SOk X.K M H0 G' H' (wipe σ (own.map (·.2))) sw ∧ H' D = some (.dK acc) ∧ RepK X.K G' acc out ∧ out.length ≤ i ∧ G' D = none ∧ ¬ M.X H' D ∧
    CompK (dcStep M X scope N sc B j (own.map (·.2)) tg ifs kx vx sw) (ds.drop i) out (fun r m2 => P (.dct r) m2) m'
  have adv : ∀ {i G' H' m' acc out} {k : Key} {y : V} {d : Da}, Ok M G H G' H' m' → Same G1 G' → SOk X.K M H0 G' H' (wipe σ (own.map (·.2))) sw → H' D = some (.dK acc) → RepK X.K G' acc out → out.length ≤ i → G' D = none → ¬ M.X H' D → Rep X.K G' y d →
      CompK (dcStep M X scope N sc B j (own.map (·.2)) tg ifs kx vx sw) (ds.drop (i + 1)) (putD out k d) (fun r m2 => P (.dct r) m2) m' → Pv (i + 1) (L2.upd H' D (.dK (putK acc k y))) := by
    intro i G' H' m' acc out k y d k1 k2 k3 k4 k5 k6 k7 k8 k9 k10
    have mo : Ok M G H G' (L2.upd H' D (.dK (putK acc k y))) m' := k1.mut k7 k8 hD0
    have nx : ∀ b, M.X (L2.upd H' D (.dK (putK acc k y))) b → M.X H' b := (M.clo m' H' _ k1.inv fun b u x e => by rw [upd_ne (fun q => k8 (by rw [← q]; exact x))]; exact e).2
    exact ⟨G', m', putK acc k y, putD out k d, mo, k2, k3.upd nx fr, upd_same, repK_put k5 k9, by have := putD_len out k d; omega, k7, fun x => k8 (nx _ x), k10⟩
  refine dc_it (g := gBlk X scope tg) (tt := tBlk X scope ifs) (tk := eBlk X scope kx) (tv := eBlk X scope vx) (vs := own.map (·.2)) (σ := σ) (D := D) (Qd := fun H => Q (.ref D) H) wlk Pv ?_ ?_ ?_ ?_
  · refine ⟨G1, m1, [], [], o1.trans al, Same.refl _, (wp.ok ((so.step o1).step al)), upd_same, .nil, Nat.le_refl _, gD, ?_, ?_⟩
    · exact fun x => nx1 ((M.clo m1 H1 _ o1.inv fun b u x e => by rw [upd_ne (fun q => nx1 (by rw [← q]; exact x))]; exact e).2 _ x)
    · simpa using q
  · rintro i H' _ ⟨G', m', acc, out, k1, k2, _⟩
    exact hG G' H' m' k2 k1.here
  · rintro i x H' H2 hi ⟨G', m', acc, out, k1, k2, k3, k4, k5, k6, k7, k8, k9⟩ y
    obtain ⟨G2, d, e1, hd, rd⟩ := hY i H' x H2 G' m' hi y k2 k1.here
    have hdr : ds.drop i = d :: ds.drop (i + 1) := by
      obtain ⟨hl, e⟩ := List.getElem?_eq_some_iff.mp hd
      rw [List.drop_eq_getElem_cons hl, e]
    rw [hdr] at k9
    obtain ⟨sl', is, tgA, hin, hif⟩ := k9
    have ok2 : Ok M G H G2 H2 m' := k1.trans e1
    have so2 := k3.step e1
    obtain ⟨f1, f2⟩ := e1.keep D _ k4 k8
    have f3 := e1.new D _ k4 k8 k7
    intro s Hb C cl fp
    refine (tgA.get cx hr s Hb C cl fp).run (blk_ctx cx s Hb C cl fp) hc (ok.trans ok2) so2 rd fun σ' so3 w3 => ⟨(w3 _ hin).trans (wipe_idem σ _), ?_⟩
    have rest : ∀ b m3 G3 H3, Ok M G2 H2 G3 H3 m3 → (if b = true then AllX X scope N sc B j fun X' => EvD M X' K0 kx sl' (fun y m2 => ∃ q, y = keyD q ∧ AllX X scope N sc B j fun X' => EvD M X' K0 vx sl' (fun z m3 => CompK (dcStep M X scope N sc B j (own.map (·.2)) tg ifs kx vx sw) (ds.drop (i + 1)) (putD out q z) (fun r m2 => P (.dct r) m2) m3) m2) m3
        else CompK (dcStep M X scope N sc B j (own.map (·.2)) tg ifs kx vx sw) (ds.drop (i + 1)) out (fun r m2 => P (.dct r) m2) m3) →
        if b = true then (∀ s Hb C cl fp, wpE (X.blk s Hb scope (compEnvC scope cl C X.env) fp) kx σ' H3 fun y H4 => ∀ s Hb C cl fp, wpE (X.blk s Hb scope (compEnvC scope cl C X.env) fp) vx σ' H4 fun z H5 => ∃ kvs k, y = kV k ∧ H5 D = some (.dK kvs) ∧ kvs.length < sizeLine ∧ Pv (i + 1) (L2.upd H5 D (.dK (putK kvs k z)))) else Pv (i + 1) H3 := by
      intro b m3 G3 H3 e2 hb
      obtain ⟨g1, g2⟩ := e2.keep D _ f1 f2
      have g3 := e2.new D _ f1 f2 f3
      cases b with
      | true =>
        rw [if_pos rfl] at hb ⊢
        intro s Hb C cl fp
        refine (AllX.get hb cx hr s Hb C cl fp) G0 H0 G3 H3 σ' (fun _ _ _ _ => False) _ ((ok.trans ok2).trans e2) (so3.step e2) wis0 fun y dy m4 G4 H4 ⟨qk, eqk, pc⟩ e3 ry => ?_
        subst eqk
        intro s Hb C cl fp
        obtain ⟨h1, h2⟩ := e3.keep D _ g1 g2
        have h3 := e3.new D _ g1 g2 g3
        refine (AllX.get pc cx hr s Hb C cl fp) G0 H0 G4 H4 σ' (fun _ _ _ _ => False) _ (((ok.trans ok2).trans e2).trans e3) ((so3.step e2).step e3) wis0 fun z dz m5 G5 H5 pz e4 rz => ?_
        obtain ⟨i1, i2⟩ := e4.keep D _ h1 h2
        have i3 := e4.new D _ h1 h2 h3
        refine ⟨acc, qk, rep_key ry, i1, by rw [k5.length]; omega, ?_⟩
        exact adv (((ok2.trans e2).trans e3).trans e4) ((((k2.trans e1.le).trans e2.le).trans e3.le).trans e4.le) ((((so2.step e2).step e3).step e4)) i1 (((((k5.mono e1.le).mono e2.le).mono e3.le)).mono e4.le) k6 i3 i2 rz pz
      | false =>
        rw [if_neg Bool.false_ne_true] at hb ⊢
        exact ⟨G3, m3, acc, out, ok2.trans e2, ((k2.trans e1.le).trans e2.le), so2.step e2, g1, (k5.mono e1.le).mono e2.le, by omega, g3, g2, hb⟩
    match ifs, hif, rest with
    | [], hif, rest => exact rest true m' G2 H2 ok2.here hif
    | [c], hif, rest =>
      intro s Hb C cl fp
      unfold lcIf at hif
      exact (AllX.get hif cx hr s Hb C cl fp) G0 H0 G2 H2 σ' (fun _ _ _ _ => False) _ (ok.trans ok2) so3 wis0 fun b m3 G3 H3 pb e2 => rest b m3 G3 H3 e2 pb
    | _ :: _ :: _, hif, _ => exact hif.elim
  · rintro H' ⟨G', m', acc, out, k1, k2, k3, k4, k5, k6, k7, k8, k9⟩
    rw [List.drop_length] at k9
    exact fin out m' G' H' k9 k1 k7 hD0 k8 ⟨acc, k4, k5⟩
theorem evn_dc (cx : Ctx X N sc B) (hr : Room j X.A) (ot : OwnT N tg own) (wp : WipeS N own sl sw) (h : IterD M X KE tg iter sl (fun ds m1 => ds.length < sizeLine ∧ CompK (dcStep M X scope N sc B j (own.map (·.2)) tg ifs kx vx sw) ds [] (fun r m2 => P (.dct r) m2) m1) m)
    (hb : blkC N sc scope own = true := by with_unfolding_all decide +kernel) (hc : X.calm = true := by with_unfolding_all rfl) (hs : ∀ x, foldedSetIterable iter X.env x = pure x := by with_unfolding_all (intro _; rfl)) : EvN M X KE (.DictComp kx vx [⟨tg, iter, ifs, 0⟩] scope pos) sl P m := by
  intro G0 H0 G H σ W Q ok so wi po
  refine wpE.of (pe_dc (own := own) (wi := wpI X tg iter) (g := gBlk X scope tg) (tt := tBlk X scope ifs) (tk := eBlk X scope kx) (tv := eBlk X scope vx) hc cx.nd pi_wp ?_ ?_ ?_ ?_ ?_ hs) ?_
  · rw [cx.n, cx.s]; exact blkOk_by hb
  · exact fun s Hb C cl fp => ⟨fun pins s' σ H v u Q I r q => q s Hb C cl fp pins s' u I r⟩
  · intro s Hb C cl fp
    match ifs with
    | [] => exact pts_nil
    | [c] => exact pts_one ⟨fun pins s' σ H Q I q => q s Hb C cl fp pins s' I⟩
    | _ :: _ :: _ => exact ⟨fun pins s' σ H Q I q => q.elim⟩
  · exact fun s Hb C cl fp => ⟨fun pins s' σ H Q I q => q s Hb C cl fp pins s' I⟩
  · exact fun s Hb C cl fp => ⟨fun pins s' σ H Q I q => q s Hb C cl fp pins s' I⟩
  · refine h G0 H0 G H σ W _ ok so wi fun J ds m1 G1 H1 q o1 wk => fun D hD => ?_
    exact dc_run cx hr hc wp ok so o1 wk q.1 q.2 D hD fun out m' G' H' p k g h0 nx r => po D (.dct out) m' G' H' p k ⟨g, h0, nx, r⟩
end
end OZ
namespace OZ
open PySem L2 PySem.Spec PyProof.Rows
section
variable {M : Mode} {X : Cx} {KE : Kx} {P : Da → Nat → Prop} {m : Nat}
theorem opd_inC {c : Nat} {z : Str} (k : P (.bl (decide (c ∈ z.cps.toList))) m) : OpD M X KE (compareOp .In) (.str ⟨#[c]⟩) (.str z) P m := .of op_in_sign fun G H _ _ _ ok r1 r2 po => ⟨c, z, r1.str_inv, r2.str_inv, po _ _ m G H k ok (.bl _)⟩
theorem opd_ninC {c : Nat} {z : Str} (k : P (.bl (!decide (c ∈ z.cps.toList))) m) : OpD M X KE (compareOp .NotIn) (.str ⟨#[c]⟩) (.str z) P m := .of op_notIn_sign fun G H _ _ _ ok r1 r2 po => ⟨c, z, r1.str_inv, r2.str_inv, po _ _ m G H k ok (.bl _)⟩
theorem cd_sortS {xs : List Str} (h : xs.length < 64) (k : ∀ ys : List Str, ys.Perm xs → sortedS ys = true → P (.lst (ys.map Da.str)) m) : CallD M X KE (.builtin "sorted") [.lst (xs.map Da.str)] P m := .of cr_sortedS fun G H Q vs ok r po => by
  obtain ⟨v, rfl, r1⟩ := reps1 r
  obtain ⟨a, us, rfl, q, rs⟩ := r1.lst_inv
  have := reps_strs rs
  subst this
  refine ⟨a, xs, rfl, sq_l (ok.sub _ _ q), h, fun ys p pm sr hp => ?_⟩
  have al := ok.here.alloc (o := .lst (ys.map V.str)) hp
  exact po _ _ m _ _ (k ys pm sr) (ok.trans al) (.lst upd_same (reps_strsI ys))
theorem cd_sortT {xs : List Str} (h : xs.length < 64) (k : ∀ ys : List Str, ys.Perm xs → sortedS ys = true → P (.lst (ys.map Da.str)) m) : CallD M X KE (.builtin "sorted") [.lst (xs.map Da.str)] P m := cd_sortS h k
theorem cd_sortI {xs : List Int} (h : xs.length < 64) (k : ∀ ys : List Int, ys.Perm xs → ys.Pairwise (· ≤ ·) → P (.lst (ys.map Da.int)) m) : CallD M X KE (.builtin "sorted") [.lst (xs.map Da.int)] P m := .of cr_sorted fun G H Q vs ok r po => by
  obtain ⟨v, rfl, r1⟩ := reps1 r
  obtain ⟨a, us, rfl, q, rs⟩ := r1.lst_inv
  have := reps_ints rs
  subst this
  refine ⟨a, xs, rfl, sq_l (ok.sub _ _ q), h, fun ys p pm sr hp => ?_⟩
  have al := ok.here.alloc (o := .lst (ys.map V.int)) hp
  exact po _ _ m _ _ (k ys pm sr) (ok.trans al) (.lst upd_same (reps_intsI ys))
theorem repK_keys {K : PySem.W.Frag} {G : Hp} : ∀ {kvs : List (Key × V)} {ks : List (Key × Da)}, RepK K G kvs ks → kvs.map (·.1) = ks.map (·.1)
  | _, _, .nil => rfl
  | _, _, .cons _ b => by simp [repK_keys b]
theorem cd_sortD {ks : List (Key × Da)} {xs : List Str} (hk : ks.map (·.1) = xs.map Sum.inr) (h : xs.length < 64) (k : ∀ ys : List Str, ys.Perm xs → sortedS ys = true → P (.lst (ys.map Da.str)) m) (hc : X.calm = true := by with_unfolding_all rfl) : CallD M X KE (.builtin "sorted") [.dct ks] P m := .of (call_sortedD hc) fun G H Q vs ok r po => by
  obtain ⟨v, rfl, r1⟩ := reps1 r
  obtain ⟨a, o, us, rfl, q, rs⟩ := r1.dct_inv
  refine ⟨a, us, xs, rfl, .inr ⟨_, ok.sub _ _ q⟩, (repK_keys rs).trans hk, h, fun ys p pm sr hp => ?_⟩
  have al := ok.here.alloc (o := .lst (ys.map V.str)) hp
  exact po _ _ m _ _ (k ys pm sr) (ok.trans al) (.lst upd_same (reps_strsI ys))
end
/-! a dict comprehension by an invariant over what is there -/
theorem compk_go {step : Da → (Option (Key × Da) → Nat → Prop) → Nat → Prop} (mono : ∀ d k k' m, (∀ o m', k o m' → k' o m') → step d k m → step d k' m) (I : Nat → List (Key × Da) → Nat → Prop) : ∀ (ds : List Da) (i : Nat) (acc : List (Key × Da)) (m : Nat) (K : List (Key × Da) → Nat → Prop), I i acc m →
    (∀ j d acc m, ds[j]? = some d → I (i + j) acc m → step d (fun o m1 => I (i + j + 1) (match o with | none => acc | some kv => putD acc kv.1 kv.2) m1) m) → (∀ r m, I (i + ds.length) r m → K r m) → CompK step ds acc K m
  | [], i, acc, m, K, h0, _, k => k acc m (by simpa using h0)
  | d :: ds, i, acc, m, K, h0, h, k => by
    refine mono d _ _ m (fun o m1 h1 => ?_) (h 0 d acc m rfl h0)
    refine compk_go mono I ds (i + 1) _ m1 _ h1 (fun j d acc m e h2 => ?_) fun r m2 h2 => ?_
    · have := h (j + 1) d acc m (by simpa using e) (by rw [show i + (j + 1) = i + 1 + j by omega]; exact h2)
      rw [show i + 1 + j + 1 = i + (j + 1) + 1 by omega]
      exact this
    · refine k _ m2 ?_
      rw [show i + (d :: ds).length = i + 1 + ds.length by simp; omega]
      exact h2
section
variable {M : Mode} {X : Cx} {scope : Scope} {N : List Str} {sc : Scope} {B : Bd} {j : Nat} {vs : List Nat} {tg kx vx : Expr} {ifs : List Expr} {sl : List Sl} {m : Nat} {x : Str} {p : Pos}
theorem dcstep_mono : ∀ d k k' m, (∀ o m', k o m' → k' o m') → dcStep M X scope N sc B j vs tg ifs kx vx sl d k m → dcStep M X scope N sc B j vs tg ifs kx vx sl d k' m := by
  rintro d k k' m hk ⟨sl', is, h1, h2, h3⟩
  refine ⟨sl', is, h1, h2, ?_⟩
  have one : ∀ b m1, (if b = true then AllX X scope N sc B j fun X' => EvD M X' K0 kx sl' (fun y m2 => ∃ q, y = keyD q ∧ AllX X scope N sc B j fun X' => EvD M X' K0 vx sl' (fun z m3 => k (some (q, z)) m3) m2) m1 else k none m1) → if b = true then AllX X scope N sc B j fun X' => EvD M X' K0 kx sl' (fun y m2 => ∃ q, y = keyD q ∧ AllX X scope N sc B j fun X' => EvD M X' K0 vx sl' (fun z m3 => k' (some (q, z)) m3) m2) m1 else k' none m1 := by
    intro b m1 h
    cases b with
    | true =>
      rw [if_pos rfl] at h ⊢
      exact fun s H C cl fp cx hr => evd_imp (h s H C cl fp cx hr) fun y m' ⟨q, e, hq⟩ => ⟨q, e, fun s H C cl fp cx hr => evd_imp (hq s H C cl fp cx hr) fun z m3 hz => hk _ _ hz⟩
    | false => rw [if_neg Bool.false_ne_true] at h ⊢; exact hk _ _ h
  match ifs, h3 with
  | [], h3 => exact one true m h3
  | [c], h3 => exact fun s H C cl fp cx hr => evt_imp (h3 s H C cl fp cx hr) fun b m' q => one b m' q
  | _ :: _ :: _, h3 => exact h3.elim
/-- {kx: vx for x in ds if c}, by an invariant -/
theorem compk_if {c : Expr} {i : Nat} (I : Nat → List (Key × Da) → Nat → Prop) {ds : List Da} {K : List (Key × Da) → Nat → Prop} (hi : IdxAt N x i) (hN : sl.length = N.length) (hv : i ∈ vs) (h0 : I 0 [] m)
    (h : ∀ n d acc m, ds[n]? = some d → I n acc m → AllX X scope N sc B j fun X' => EvT M X' K0 c (sl.set i (.v d)) (fun b m1 => if b = true then AllX X scope N sc B j fun X' => EvD M X' K0 kx (sl.set i (.v d)) (fun y m2 => ∃ q, y = keyD q ∧ AllX X scope N sc B j fun X' => EvD M X' K0 vx (sl.set i (.v d)) (fun z m3 => I (n + 1) (putD acc q z) m3) m2) m1 else I (n + 1) acc m1) m)
    (k : ∀ r m, I ds.length r m → K r m) (hl : (relabelS scope sc).names.lookup x = some .local := by with_unfolding_all rfl) : CompK (dcStep M X scope N sc B j vs (.Name x p) [c] kx vx sl) ds [] K m :=
  compk_go dcstep_mono I ds 0 [] m K h0 (fun n d acc m e q => ⟨_, [i], fun s H C cl fp cx hr => .name (.of hi hN) (.inl hl) (.inr (by rw [cx.s]; exact hl)), fun a ha => (by rw [List.mem_singleton.mp ha]; exact hv), by rw [Nat.zero_add] at q ⊢; exact h n d acc m e q⟩) fun r m q => k r m (by simpa using q)
theorem compk_all {i : Nat} (I : Nat → List (Key × Da) → Nat → Prop) {ds : List Da} {K : List (Key × Da) → Nat → Prop} (hi : IdxAt N x i) (hN : sl.length = N.length) (hv : i ∈ vs) (h0 : I 0 [] m)
    (h : ∀ n d acc m, ds[n]? = some d → I n acc m → AllX X scope N sc B j fun X' => EvD M X' K0 kx (sl.set i (.v d)) (fun y m2 => ∃ q, y = keyD q ∧ AllX X scope N sc B j fun X' => EvD M X' K0 vx (sl.set i (.v d)) (fun z m3 => I (n + 1) (putD acc q z) m3) m2) m)
    (k : ∀ r m, I ds.length r m → K r m) (hl : (relabelS scope sc).names.lookup x = some .local := by with_unfolding_all rfl) : CompK (dcStep M X scope N sc B j vs (.Name x p) [] kx vx sl) ds [] K m :=
  compk_go dcstep_mono I ds 0 [] m K h0 (fun n d acc m e q => ⟨_, [i], fun s H C cl fp cx hr => .name (.of hi hN) (.inl hl) (.inr (by rw [cx.s]; exact hl)), fun a ha => (by rw [List.mem_singleton.mp ha]; exact hv), by rw [Nat.zero_add] at q ⊢; exact h n d acc m e q⟩) fun r m q => k r m (by simpa using q)
/-- .. with a condition, a list comprehension -/
theorem compd_allIf {c elt : Expr} {i : Nat} (I : Nat → List Da → Nat → Prop) {ds : List Da} {K : List Da → Nat → Prop} (hi : IdxAt N x i) (hN : sl.length = N.length) (hv : i ∈ vs) (h0 : I 0 [] m)
    (h : ∀ n d acc m, ds[n]? = some d → I n acc m → AllX X scope N sc B j fun X' => EvT M X' K0 c (sl.set i (.v d)) (fun b m1 => if b = true then AllX X scope N sc B j fun X' => EvD M X' K0 elt (sl.set i (.v d)) (fun y m2 => I (n + 1) (acc ++ [y]) m2) m1 else I (n + 1) acc m1) m)
    (k : ∀ r m, I ds.length r m → K r m) (hl : (relabelS scope sc).names.lookup x = some .local := by with_unfolding_all rfl) : CompD (lcStep M X scope N sc B j vs (.Name x p) [c] elt sl) ds K m :=
  compd_inv lcstep_mono I h0 (fun n d acc m e q => lcstep_nameIf (.of hi hN) hv (fun s H C cl fp cx hr => evt_imp (h n d acc m e q s H C cl fp cx hr) fun b m1 hb => by
    cases b with
    | true => exact hb
    | false => simpa using hb) hl) k
end
end OZ
namespace OZ
open PySem L2 PySem.Spec PyProof.Rows
section
variable {B : Bd} {M : Mode} {x qual : Str} {st : Stmt} {f C : Addr} {fd : FuncData} {N ps : List Str} {k n : Nat} {F : FI} {ks : List Str} {gD : List Da → List Da → List Da}
theorem fnID_ok {dvs : List V} {kws : List (Str × V)} (Fn : FunD B.K x qual (defArgs st) (defBody st) (defScope st) dvs kws f fd) (S : FnScope N ps (defScope st)) (hn : n + 1 = ps.length)
    (h : ∀ (X : Cx) (ds : List Da) (KR : List (Str × Da) → Nat → Prop) (KE : Kx) (m : Nat) (a : Addr), (∃ cdv A outer s H E, X = cxOf (L2.CX B.P B.w) B.P B.w B.K B.mg B.base N qual (defScope st) f cdv A outer s H E) → Ctx X N (defScope st) B → Room k X.A → ds.length = n → F ds KR KE m →
      StD M X (fun _ => KE) (defBody st) ((startD N (.ref a :: ds)).set 0 (.mm (some a) (.obj C []))) { nx := fun sl' m' => ∃ fs, sl'[0]? = some (.mm (some a) (.obj C fs)) ∧ KR fs m', rt := fun _ _ => False } m) : FnOk B.P B.w B.K B.mg B.base (L2.CX B.P B.w) (k + 1) f fd ps (spI M B.K C n F) := by
  refine Fn.ok S (fun vs H Q E q => q.1.trans hn) (fun cdv A outer s H vs Q E hr q => ?_)
  obtain ⟨hl, a, dx, rest, H0, G, m, ds, KR, KE, rfl, hx, hdx, ne, rfl, ok, r, hF, po, px⟩ := q
  refine ⟨_, pss_wp, ?_⟩
  have ok1 : Ok M G H0 G (L2.upd H0 dx (.own a)) m := ok.allocM hdx
  have hx1 : (L2.upd H0 dx (.own a)) a = none := by rw [upd_ne (Ne.symm ne)]; exact hx
  have ok2 := ok1.trans (ok1.allocM (o := .ins C dx []) hx1)
  have nX0 : ¬ M.X H0 a := fun z => by obtain ⟨u, e⟩ := M.there _ _ _ ok.inv z; rw [hx] at e; cases e
  have nX1 : ¬ M.X (L2.upd H0 dx (.own a)) a := fun z => by obtain ⟨u, e⟩ := M.there _ _ _ ok1.inv z; rw [hx1] at e; cases e
  have gA : G a = none := by
    cases e : G a with
    | none => rfl
    | some u => rw [ok.sub _ _ e] at hx; cases hx
  have nw : New B.K M H0 G (L2.upd (L2.upd H0 dx (.own a)) a (.ins C dx [])) a (.obj C []) := ⟨gA, .inl hx, fun z => nX1 (X_keep ok1 nX1 _ z), dx, [], upd_same, .nil⟩
  have so0 : SOk B.K M H0 G (L2.upd (L2.upd H0 dx (.own a)) a (.ins C dx [])) (L2.start N (.ref a :: rest)) (startD N (.ref a :: ds)) := sok_startB (.cons (.ref a) r)
  have so1 : SOk B.K M H0 G (L2.upd (L2.upd H0 dx (.own a)) a (.ins C dx [])) (L2.start N (.ref a :: rest)) ((startD N (.ref a :: ds)).set 0 (.mm (some a) (.obj C []))) := by
    have hs0 : (L2.start N (.ref a :: rest)).set 0 (some (.ref a)) = L2.start N (.ref a :: rest) := rfl
    refine ⟨?_, fun i j b mi mj ei ej => ?_⟩
    · have := paired_set (F := RelSl B.K M H0 G (L2.upd (L2.upd H0 dx (.own a)) a (.ins C dx []))) (x := some (.ref a)) (y := .mm (some a) (.obj C [])) ⟨a, rfl, fun y e => Option.some.inj e, nw.g, nw.h0, nw.nx, nw.r⟩ 0 so0.rel
      rw [hs0] at this
      exact this
    · have w : ∀ i, Mt ((startD N (.ref a :: ds)).set 0 (.mm (some a) (.obj C []))) i → i = 0 := fun i ⟨q, d, hd⟩ => by
        by_cases z : 0 = i
        · exact z.symm
        · rw [List.getElem?_set_ne z] at hd; exact absurd ⟨q, d, hd⟩ start_noM
      rw [w i mi, w j mj]
  refine h (cxOf (L2.CX B.P B.w) B.P B.w B.K B.mg B.base N qual (defScope st) f cdv A outer s _ E) ds KR KE m a ⟨cdv, A, outer, s, _, E, rfl⟩ ⟨rfl, rfl, S.nd, rfl⟩ hr (by have := r.length; simp at hl; omega) hF G H0 G _ (L2.start N (.ref a :: rest)) (fun cls d _ H => E cls d H) _ ok2 so1 ⟨takes_of rfl rfl rfl rfl, fun C' fs d σ sl m' G' H' q o _ x => px C' fs d m' G' H' q o x⟩ ⟨?_, ?_, ?_, ?_, ?_⟩
  · rintro σ sl m' G' H' ⟨fs, e, q⟩ o so
    obtain ⟨u, e1, b, rfl, zz, g, h0, nx, rm⟩ := paired_get so.rel e
    cases zz a rfl
    exact po fs m' G' H' q o ⟨g, h0, nx, rm⟩
  · exact fun _ _ _ _ _ z => z.elim
  · exact fun _ _ _ _ _ z => z.elim
  · exact fun _ _ _ _ _ z => z.elim
  · exact fun _ _ _ _ _ z => z.elim
end
end OZ

/-! ### dicts: copies, get, stores, displays -/
namespace OZ
open PySem L2 PySem.Spec PyProof.Rows
section
variable {M : Mode} {X : Cx} {KE : Kx} {a b e f o : Expr} {es : List Expr} {sl : List Sl} {P : Da → Nat → Prop} {m j i : Nat} {pos p apos cpos : Pos} {x : Str} {id : String} {N : List Str} {sc : Scope} {B : Bd}
/-- a call that makes an object of the run's own -/
def CallDN (M : Mode) (X : Cx) (KE : Kx) (f : Value) (ds : List Da) (P : Da → Nat → Prop) (m : Nat) : Prop :=
  ∀ (G H : Hp) (σ : L2.St) (W : WX) (Q : VK) (vs : List V), Ok M G H G H m → Wis M X KE G H σ W → Reps X.K G vs ds → (∀ ad d m' G' H', P d m' → Ok M G H G' H' m' → New X.K M H G' H' ad d → Q (.ref ad) H') →
    ∀ pins s us, Inv X pins σ H s → Vals vs us → wpAny (model X.prog X.w) X.A (call f us) (EP X pins σ Q) X.xe s
theorem CallDN.d {f : Value} {ds : List Da} (c : CallDN M X KE f ds P m) : CallD M X KE f ds P m := fun G H σ W Q vs ok wi r po pins s us I e =>
  thn (c G H σ W (fun v H' => ∃ ad d m' G', v = .ref ad ∧ P d m' ∧ Ok M G H G' H' m' ∧ New X.K M H G' H' ad d) vs ok wi r (fun ad d m' G' H' q o n => ⟨ad, d, m', G', rfl, q, o, n⟩) pins s us I e) fun v s1 ⟨x, H1, I1, rv, ad, d, m', G', e, p, o, n⟩ => by
    obtain ⟨G2, H2, I2, o2, rep⟩ := n.pubI o I1
    subst e
    exact ⟨_, H2, I2, rv, po _ d m' G2 H2 p o2 rep⟩
theorem new_at {G H : Hp} {ad : Addr} {u : HO} {d : Da} (ok : Ok M G H G H m) (h : H ad = none) (r : RepM X.K G (L2.upd H ad u) ad d) : Ok M G H G (L2.upd H ad u) m ∧ New X.K M H G (L2.upd H ad u) ad d := by
  have gA : G ad = none := by
    cases e : G ad with
    | none => rfl
    | some u => rw [ok.sub _ _ e] at h; cases h
  have nx : ¬ M.X H ad := fun z => by obtain ⟨u, e⟩ := M.there _ _ _ ok.inv z; rw [h] at e; cases e
  exact ⟨ok.allocM h, gA, .inl h, fun z => nx (X_keep ok nx _ z), r⟩
theorem cdn_dictD {ks : List (Key × Da)} (k : P (.dct ks) m) : CallDN M X KE (.type "dict") [.dct ks] P m := fun G H σ W Q vs ok wi r po pins s us I e => by
  obtain ⟨v, rfl, r1⟩ := reps1 r
  obtain ⟨a, ob, kvs, rfl, q, t⟩ := r1.dct_inv
  refine call_dictD pins s σ H _ us Q I e ⟨a, kvs, rfl, .inr ⟨_, ok.sub _ _ q⟩, fun ad had => ?_⟩
  obtain ⟨o2, nw⟩ := new_at (X := X) (u := .dK kvs) (d := .dct ks) ok had ⟨kvs, upd_same, t⟩
  exact po ad _ m G _ k o2 nw
theorem cd_dictD {ks : List (Key × Da)} (k : P (.dct ks) m) : CallD M X KE (.type "dict") [.dct ks] P m := (cdn_dictD k).d
theorem cd_lenK {ks : List (Key × Da)} (k : P (.int ks.length) m) : CallD M X KE (.builtin "len") [.dct ks] P m := fun G H σ W Q vs ok wi r po pins s us I e => by
  obtain ⟨v, rfl, r1⟩ := reps1 r
  obtain ⟨a, ob, kvs, rfl, q, t⟩ := r1.dct_inv
  obtain ⟨u, rfl, ru⟩ := vals1 e
  cases ru
  refine d_len I (.inr ⟨_, ok.sub _ _ q⟩) fun t' s' I' => ⟨.int kvs.length, H, I', ⟨t', rfl⟩, po _ _ m G H k ok (by rw [t.length]; exact .int _)⟩
theorem cdn_listL {ds : List Da} (k : P (.lst ds) m) : CallDN M X KE (.type "list") [.lst ds] P m := fun G H σ W Q vs ok wi r po pins s us I e => by
  obtain ⟨v, rfl, r1⟩ := reps1 r
  obtain ⟨a, us', rfl, q, t⟩ := r1.lst_inv
  refine call_list_of pins s σ H _ us Q I e ⟨a, us', rfl, .inl (sq_l (ok.sub _ _ q)), fun ad had => ?_⟩
  obtain ⟨o2, nw⟩ := new_at (X := X) (u := .lst us') (d := .lst ds) ok had ⟨us', upd_same, t⟩
  exact po ad _ m G _ k o2 nw
theorem cdn_listT {ds : List Da} (k : P (.lst ds) m) : CallDN M X KE (.type "list") [.tup ds] P m := fun G H σ W Q vs ok wi r po pins s us I e => by
  obtain ⟨v, rfl, r1⟩ := reps1 r
  obtain ⟨a, us', rfl, q, t⟩ := r1.tup_inv
  refine call_list_of pins s σ H _ us Q I e ⟨a, us', rfl, .inr (sqT_same ok.sub q), fun ad had => ?_⟩
  obtain ⟨o2, nw⟩ := new_at (X := X) (u := .lst us') (d := .lst ds) ok had ⟨us', upd_same, t⟩
  exact po ad _ m G _ k o2 nw
/-- dict(e), list(e): an object of the run's own -/
theorem evn_callTy (cx : Ctx X N sc B) (hm : B.mg x = none) (h : EvA M X KE (e :: es) sl (fun ds m1 => CallDN M X KE (.type id) ds P m1) m) (hv : bootBuiltins x = some (.type id) := by with_unfolding_all first | rfl | decide +kernel) (hg : GlS sc x := by with_unfolding_all rfl) (hn : x ≠ "__name__" := by with_unfolding_all decide) (hdb : (x == ("__debug__" : Str)) = false := by with_unfolding_all decide)
    (he : starEach (e :: es) X.env = (false, eval e X.env) :: starEach es X.env := by with_unfolding_all rfl) (hpl : (backTo pos (starEach es X.env)).any (·.1) = false := by with_unfolding_all rfl) : EvN M X KE (.Call (.Name x p) (e :: es) [] pos) sl P m := by
  intro G0 H0 G H σ W Q ok so wi po pins s I
  refine wpAny_Call_Name_kw (ld_blt I (cx.gl hg) (cx.mg hm) hv ?_ hn hdb)
  refine PyProof.Rows.callWith_type1 (h.run ok so wi I (fun us s1 vs ds m1 G1 H1 p1 k1 o1 so1 wi1 r1 I1 rv1 => ?_) pos) he hpl
  exact p1 G1 H1 σ W Q vs k1.here wi1 r1 (fun ad d m' G' H' q o n => po ad d m' G' H' q (o1.trans o) (n.back o1)) pins s1 us I1 rv1
/-- d.get(k, z) -/
theorem evd_get2 (hr : Room j X.A) (h : EvD M X KE o sl (fun d m0 => ∃ ks, d = .dct ks ∧ EvD M X KE e sl (fun y m1 => ∃ k, y = keyD k ∧ EvD M X KE f sl (fun z m2 => P ((look k ks).getD z) m2) m1) m0) m)
    (hbase : attributeBase o "get" X.env (eval o X.env) = eval o X.env := by with_unfolding_all rfl)
    (hfew : ((backTo cpos (starEach [e, f] X.env)).all (fun x => !x.1) && (backToKw cpos (keywordEach [] X.env)).all (fun x => x.1.isSome)
      && decide (([e, f] : List Expr).length + ([] : List Keyword).length + (if ([] : List Keyword).isEmpty then 0 else 1) < 30)) = true := by with_unfolding_all rfl)
    (hline : (apos.endLine == cpos.line) = true := by with_unfolding_all rfl) (htr : backTo cpos (starEach [e, f] X.env) = [(false, eval e X.env), (false, eval f X.env)] := by with_unfolding_all rfl) : EvD M X KE (.Call (.Attribute o "get" apos) [e, f] [] cpos) sl P m := by
  intro G0 H0 G H σ W Q ok so wi po
  refine wpE.of (pe_dget2 (by have := L2.Room.units hr; omega) pe_wp pe_wp pe_wp ⟨hbase, hfew, hline, htr⟩) (h G0 H0 G H σ W _ ok so wi fun v d m0 G1 H1 ⟨ks, ed, q1⟩ o1 r1 => ?_)
  subst ed
  obtain ⟨a, ob, kvs, rfl, q, t⟩ := r1.dct_inv
  refine ⟨a, rfl, .inl ⟨kvs, .inr ⟨_, o1.sub _ _ q⟩⟩, ?_⟩
  refine q1 G0 H0 G1 H1 σ W _ (ok.trans o1) (so.step o1) (wi.step o1) fun y dy m1 G2 H2 ⟨k, ek, q2⟩ o2 r2 => ?_
  subst ek
  refine q2 G0 H0 G2 H2 σ W _ ((ok.trans o1).trans o2) ((so.step o1).step o2) ((wi.step o1).step o2) fun z dz m2 G3 H3 q3 o3 r3 => ?_
  have t3 := RepK.mono (o2.le.trans o3.le) t
  obtain ⟨ov, h1, h2, h3⟩ := repK_get (k := k) t3
  refine ⟨ov, .inl ⟨kvs, k, .inr ⟨_, o3.sub _ _ (o3.le _ _ (o2.le _ _ q))⟩, rep_key r2, h1.symm⟩, ?_⟩
  refine po _ _ m2 G3 H3 q3 ((o1.trans o2).trans o3) ?_
  cases hl : look k ks with
  | none =>
    rw [hl] at h2
    cases ov with
    | none => exact r3
    | some v => cases h2
  | some d =>
    obtain ⟨v, rfl, rv⟩ := h3 d hl
    exact rv
/-- own.get(k, z) -/
theorem evd_get2Own {q : Option Addr} {ks : List (Key × Da)} (cx : Ctx X N sc B) (hr : Room j X.A) (hx : EnvAt N sl x i (.mm q (.dct ks))) (h : EvD M X KE e sl (fun y m1 => ∃ k, y = keyD k ∧ EvD M X KE f sl (fun z m2 => P ((look k ks).getD z) m2) m1) m)
    (hv : Vis sc x := by with_unfolding_all first | exact Or.inl rfl | exact Or.inr (Or.inl rfl) | exact Or.inr (Or.inr rfl)) (hd : (x == ("__debug__" : Str)) = false := by with_unfolding_all decide) (hcd : (x == ("__classdict__" : Str)) = false := by with_unfolding_all decide)
    (hbase : attributeBase (.Name x p) "get" X.env (eval (.Name x p) X.env) = eval (.Name x p) X.env := by with_unfolding_all rfl)
    (hfew : ((backTo cpos (starEach [e, f] X.env)).all (fun x => !x.1) && (backToKw cpos (keywordEach [] X.env)).all (fun x => x.1.isSome)
      && decide (([e, f] : List Expr).length + ([] : List Keyword).length + (if ([] : List Keyword).isEmpty then 0 else 1) < 30)) = true := by with_unfolding_all rfl)
    (hline : (apos.endLine == cpos.line) = true := by with_unfolding_all rfl) (htr : backTo cpos (starEach [e, f] X.env) = [(false, eval e X.env), (false, eval f X.env)] := by with_unfolding_all rfl) : EvD M X KE (.Call (.Attribute (.Name x p) "get" apos) [e, f] [] cpos) sl P m := by
  intro G0 H0 G H σ W Q ok so wi po
  refine wpE.of (pe_dget2 (by have := L2.Room.units hr; omega) (pe_var (by rw [cx.n]; exact hx.name) (cx.vis hv) hd hcd) pe_wp pe_wp ⟨hbase, hfew, hline, htr⟩) ?_
  obtain ⟨ov, e1, ad, rfl, zz, g, h0, n, kvs, hl, t⟩ := paired_get so.rel hx.slot
  refine ⟨_, e1, ad, rfl, .inl ⟨kvs, .inl hl⟩, ?_⟩
  refine h G0 H0 G H σ W _ ok so wi fun y dy m1 G2 H2 ⟨k, ek, q2⟩ o2 r2 => ?_
  subst ek
  refine q2 G0 H0 G2 H2 σ W _ (ok.trans o2) (so.step o2) (wi.step o2) fun z dz m2 G3 H3 q3 o3 r3 => ?_
  have so3 := (so.step o2).step o3
  obtain ⟨ov', e2, ad', hh, zz', g', h0', n', kvs', hl', t'⟩ := paired_get so3.rel hx.slot
  rw [e1] at e2
  cases e2
  cases hh
  obtain ⟨ov, h1, h2, h3⟩ := repK_get (k := k) t'
  refine ⟨ov, .inl ⟨kvs', k, .inl hl', rep_key r2, h1.symm⟩, ?_⟩
  refine po _ _ m2 G3 H3 q3 (o2.trans o3) ?_
  cases hlk : look k ks with
  | none =>
    rw [hlk] at h2
    cases ov with
    | none => exact r3
    | some v => cases h2
  | some d =>
    obtain ⟨v, rfl, rv⟩ := h3 d hlk
    exact rv
/-- {} -/
theorem evn_dict0 (k : P (.dct []) m) : EvN M X KE (.Dict [] [] pos) sl P m := fun G0 H0 G H σ W Q ok so wi po =>
  wpE.of pe_dnewK fun ad had => by
    obtain ⟨o2, nw⟩ := new_at (X := X) (u := .dK []) (d := .dct []) ok.here had ⟨[], upd_same, .nil⟩
    exact po ad _ m G _ k o2 nw
end
/-! own[k] = e -/
section
variable {M : Mode} {X : Cx} {KE : Ks} {b e : Expr} {sl : List Sl} {D : Kn} {m i j : Nat} {x : Str} {p pos spos : Pos} {N : List Str} {sc : Scope} {B : Bd}
theorem st1_setIxK {ks : List (Key × Da)} (cx : Ctx X N sc B) (hr : Room j X.A) (hx : EnvAt N sl x i (.m (.dct ks))) (hlen : ks.length < sizeLine) (h : EvD M X (KE sl) e sl (fun z m1 => EvD M X (KE sl) b sl (fun y m2 => ∃ k, y = keyD k ∧ ∃ i' sl', EnvSet N sl x i' (.m (.dct (putD ks k z))) sl' ∧ D.nx sl' m2) m1) m)
    (hv : Vis sc x := by with_unfolding_all first | exact Or.inl rfl | exact Or.inr (Or.inl rfl) | exact Or.inr (Or.inr rfl)) (hd : (x == ("__debug__" : Str)) = false := by with_unfolding_all decide) (hcd : (x == ("__classdict__" : Str)) = false := by with_unfolding_all decide)
    (hs : swapsWith e (some (.Subscript (.Name x p) b pos)) spos.line X.env = pure false := by with_unfolding_all rfl) : St1 M X KE (.Assign [.Subscript (.Name x p) b pos] e spos) sl D m := by
  intro G0 H0 G H σ W E ok so wi po
  refine wpS.of (ps_dput (by have := L2.Room.units hr; omega) (pe_var (by rw [cx.n]; exact hx.name) (cx.vis hv) hd hcd) pe_wp pe_wp hs) ?_
  have wi' := wi.at ok so
  refine h G0 H0 G H σ W _ ok so wi' fun v z m1 G1 H1 q1 o1 r1 => ?_
  have so1 := so.step o1
  obtain ⟨o, e1, ad, rfl, zz, g, h0, n, rm⟩ := paired_get so1.rel hx.slot
  refine ⟨_, e1, ?_⟩
  refine q1 G0 H0 G1 H1 σ W _ (ok.trans o1) so1 (wi'.step o1) fun w y m2 G2 H2 ⟨k, hy, i', sl', es, q2⟩ o2 r2 => ?_
  subst hy
  have so2 := so1.step o2
  obtain ⟨o', e2, ad', hh, zz', g', h0', n', kvs, hl, rs⟩ := paired_get so2.rel hx.slot
  rw [e1] at e2
  cases e2
  cases hh
  obtain ⟨k1, k2⟩ := own_step (ok.trans (o1.trans o2)) so2 hx.slot e1 (o := .dK (putK kvs k v)) (d1 := .dct (putD ks k z)) ⟨_, upd_same, repK_put rs (r1.mono o2.le)⟩
  exact ⟨ad, _, rfl, .inl ⟨kvs, k, hl, rep_key r2, by rw [rs.length]; exact hlen, rfl⟩, po.nx σ _ m2 G2 _ q2 k1 (envset_eq (cx.n ▸ cx.nd) hx.name es ▸ k2)⟩
end
end OZ

/-! ### operators of own classes with ints; -x, str(x) -/
namespace OZ
open PySem L2 PySem.Spec PyProof.Rows
/-- what an operator of the class asks of an int beside it -/
structure BinI (K : PySem.W.Frag) (C : Addr) (op : Operator) : Prop where
  rr : ∃ rc, PySem.W.findIn K (.ref C) (dunderR op.info.2) = some rc ∧ (rc = none ∨ ∃ g : Addr, rc = some (.ref g))
  h1 : ∃ fo, PySem.W.findIn K (.type "int") (PySem.dunder op.info.2) = some fo
  h2 : ∃ ro, PySem.W.findIn K (.type "int") (dunderR op.info.2) = some ro
  sub : PySem.W.subIn K (.type "int") (.ref C) = some false
  sub2 : PySem.W.subIn K (.ref C) (.type "int") = some false
  sf : PySem.W.selfFirst K C = true
section
variable {M : Mode} {X : Cx} {KE : Kx} {P : Da → Nat → Prop} {m k j n : Nat} {C : Addr} {F : FD} {fs gs : List (Str × Da)} {B : Bd} {N : List Str} {sc : Scope} {i : Int}
theorem opd_ownI {op : Operator} (cx : Ctx X N sc B) (c : SpecG M B k C (PySem.dunder op.info.2) 2 F) (b : BinI B.K C op) (hr : Room j X.A) (h : F [.obj C fs, .int i] P KE m) (hk : k ≤ j := by with_unfolding_all decide) : OpD M X KE (binaryOp op) (.obj C fs) (.int i) P m := by
  have eb := cx.b
  subst eb
  obtain ⟨g, o, fg⟩ := c.ex
  obtain ⟨rc, rr, hp⟩ := b.rr
  obtain ⟨fo, h1⟩ := b.h1
  obtain ⟨ro, h2⟩ := b.h2
  intro G H σ W Q x y ok wi r1 r2 po pins s v u I rx ry
  have r10 := r1; have r20 := r2
  obtain ⟨a, dx, vs, rfl, ea, _⟩ := r1.obj_inv
  have := r2.int_inv
  subst this
  have ry0 := ry
  cases rx
  obtain ⟨t, rfl⟩ := ry
  obtain ⟨mA, J, _⟩ := ins_get I.hok (ok.sub _ _ ea)
  obtain ⟨od, J, _⟩ := J.look
  obtain ⟨mm, hF⟩ := I.fr
  exact PySem.W.ksp_binT (T := "int") hF I.ok.mod.kin J rfl b.sf o.at_ o.fn rr hp h1 h2 b.sub (run_atD fg ⟨hr, rfl⟩ hk rfl h ok wi (.cons r10 (.cons r20 .nil)) I (.cons rfl (.cons ry0 .nil)) fun v d m' G' H' u s' p o2 rr I' rv => OS.notImpl rv ⟨v, H', I', rv, po v d m' G' H' p o2 rr⟩)
theorem opd_reflI {op : Operator} {id : String} (cx : Ctx X N sc B) (c : SpecG M B k C (dunderR op.info.2) 2 F) (b : BinI B.K C op) (c0 : ∃ f : Addr, PySem.W.findIn B.K (.ref C) (PySem.dunder op.info.2) = some (some (.ref f))) (dc : OS.Decl X.prog X.w op.info.2 id) (hr : Room j X.A) (h : F [.obj C fs, .int i] P KE m) (hk : k ≤ j := by with_unfolding_all decide) : OpD M X KE (binaryOp op) (.int i) (.obj C fs) P m := by
  have eb := cx.b
  subst eb
  obtain ⟨g, o, fg⟩ := c.ex
  obtain ⟨f0, hf0⟩ := c0
  obtain ⟨fo, h1⟩ := b.h1
  obtain ⟨ro, h2⟩ := b.h2
  intro G H σ W Q y x ok wi r2 r1 po pins s u v I ry rx
  have r10 := r1; have r20 := r2
  obtain ⟨a, dx, vs, rfl, ea, _⟩ := r1.obj_inv
  have := r2.int_inv
  subst this
  have ry0 := ry
  cases rx
  obtain ⟨t, rfl⟩ := ry
  obtain ⟨ox, od, J, hd⟩ := OS.plain_at I (ok.sub _ _ ea)
  obtain ⟨mm, hF⟩ := I.fr
  obtain ⟨mA, J0, _⟩ := ins_get I.hok (ok.sub _ _ ea)
  exact OS.int_op_own hF I.ok.mod.kin J J.1 hd b.sf hf0 o.at_ o.fn h1 h2 b.sub2 dc (run_atD fg ⟨hr, rfl⟩ hk rfl h ok wi (.cons r10 (.cons r20 .nil)) I (.cons rfl (.cons ry0 .nil)) fun v d m' G' H' u s' p o2 rr I' rv => OS.notImpl rv ⟨v, H', I', rv, po v d m' G' H' p o2 rr⟩)
theorem und_negO (cx : Ctx X N sc B) (c : SpecG M B k C "__neg__" 1 F) (hr : Room j X.A) (h : F [.obj C fs] P KE m) (hk : k ≤ j := by with_unfolding_all decide) : UnD M X KE (unaryOp .USub) (.obj C fs) P m := by
  have eb := cx.b
  subst eb
  obtain ⟨g, o, fg⟩ := c.ex
  intro G H σ W Q x ok wi r1 po pins s v I rx
  have r10 := r1
  obtain ⟨a, dx, vs, rfl, ea, _⟩ := r1.obj_inv
  cases rx
  obtain ⟨mA, J, _⟩ := ins_get I.hok (ok.sub _ _ ea)
  obtain ⟨od, J, _⟩ := J.look
  obtain ⟨mm, hF⟩ := I.fr
  exact PySem.W.ksp_neg hF I.ok.mod.kin J o.at_ o.fn (run_atD fg ⟨hr, rfl⟩ hk rfl h ok wi (.cons r10 .nil) I OS.v1 fun v d m' G' H' u s' p o2 rr I' rv => ⟨v, H', I', rv, po v d m' G' H' p o2 rr⟩)
theorem cd_strO (cx : Ctx X N sc B) (c : SpecG M B k C "__str__" 1 F) (hr : Room j X.A) (h : F [.obj C fs] (fun d m1 => ∃ z, d = .str z ∧ P (.str z) m1) KE m) (hk : k + 2 ≤ j := by with_unfolding_all decide) : CallD M X KE (.type "str") [.obj C fs] P m := by
  have eb := cx.b
  subst eb
  obtain ⟨g, o, fg⟩ := c.ex
  intro G H σ W Q vs ok wi r po pins s us I e
  obtain ⟨v, rfl, r1⟩ := reps1 r
  have r10 := r1
  obtain ⟨a, dx, vs, rfl, ea, _⟩ := r1.obj_inv
  obtain ⟨u, rfl, ru⟩ := vals1 e
  cases ru
  obtain ⟨mA, J, _⟩ := ins_get I.hok (ok.sub _ _ ea)
  obtain ⟨od, J, _⟩ := J.look
  have sb : Sub X k X.A.in1.in1 := (Sub.in1 (n := k) (Sub.in1 (n := k + 1) ⟨hr.mono hk, rfl⟩))
  refine PySem.W.kso_call (by have := sb.room.units0; exact this) I.kIn J o.at_ o.fn (run_atD fg sb (Nat.le_refl _) rfl h ok wi (.cons r10 .nil) I OS.v1 fun v d m' G' H' u s' p o2 rr I' rv => ?_)
  obtain ⟨z, rfl, p⟩ := p
  cases rr
  obtain ⟨t, rfl⟩ := id rv
  exact ⟨.str z, H', I', ⟨t, rfl⟩, po _ _ m' G' H' p o2 (.str z)⟩
end
end OZ

namespace OZ
open PySem L2
theorem key_str {s : Str} {Q : Key → Prop} (h : Q (Sum.inr s)) : ∃ k, Da.str s = keyD k ∧ Q k := ⟨_, rfl, h⟩
theorem key_int {s : Int} {Q : Key → Prop} (h : Q (Sum.inl s)) : ∃ k, Da.int s = keyD k ∧ Q k := ⟨_, rfl, h⟩
section
variable {M : Mode} {X : Cx} {KE : Kx} {P : Da → Nat → Prop} {m j : Nat} {s : Str} {i : Int} {ks : List (Key × Da)}
theorem opd_inKS (hr : Room j X.A) (h : P (.bl (look (Sum.inr s : Key) ks).isSome) m) : OpD M X KE (compareOp .In) (.str s) (.dct ks) P m := opd_inK (k := Sum.inr s) (by have := L2.Room.units hr; omega) h
theorem opd_ninKS (hr : Room j X.A) (h : P (.bl (!(look (Sum.inr s : Key) ks).isSome)) m) : OpD M X KE (compareOp .NotIn) (.str s) (.dct ks) P m := opd_ninK (k := Sum.inr s) (by have := L2.Room.units hr; omega) h
theorem ixd_dctS {d : Da} (hr : Room j X.A) (h : look (Sum.inr s : Key) ks = some d) (kp : P d m) : IxD M X KE (.dct ks) (.str s) P m := ixd_dct (k := Sum.inr s) (by have := L2.Room.units hr; omega) h kp
end
end OZ

namespace OS
open PySem L2 PySem.Spec PyProof.Rows
section
variable {X : Cx}
/-- name = {.. : .. for ..} on one line, the name a local -/
theorem ps_setDc {i : Nat} {y : Str} {py : Pos} {kx vx tg iter : Expr} {ifs : List Expr} {scope : Scope} {own : List (Str × Nat)} {pos spos : Pos} {wi : TI} {g : TG} {tt : TT} {tk tv : TE} (hc : X.calm = true) (hN : X.N.Nodup) (hy : X.N[i]? = some y) (hyl : X.env.scope.names.lookup y = some .local)
    (hsw : swapsWith (.DictComp kx vx [⟨tg, iter, ifs, 0⟩] scope pos) (some (.Name y py)) spos.line X.env = pure true) (hi : PI X tg iter wi) (ok : BlkOk X.N X.env.scope scope own)
    (hg : ∀ (s : Shared) (H : Hp) (C : Addr) (cl : List (Str × Addr)) (fp : List Addr), PG (X.blk s H scope (compEnvC scope cl C X.env) fp) tg g) (ht : ∀ (s : Shared) (H : Hp) (C : Addr) (cl : List (Str × Addr)) (fp : List Addr), PTs (X.blk s H scope (compEnvC scope cl C X.env) fp) ifs tt)
    (hk : ∀ (s : Shared) (H : Hp) (C : Addr) (cl : List (Str × Addr)) (fp : List Addr), PE (X.blk s H scope (compEnvC scope cl C X.env) fp) kx tk)
    (he : ∀ (s : Shared) (H : Hp) (C : Addr) (cl : List (Str × Addr)) (fp : List Addr), PE (X.blk s H scope (compEnvC scope cl C X.env) fp) vx tv) (hs : ∀ x, foldedSetIterable iter X.env x = pure x := by intro _; rfl) :
    PS X (.Assign [.Name y py] (.DictComp kx vx [⟨tg, iter, ifs, 0⟩] scope pos) spos) (tAsg (tDc wi g tt tk tv (own.map (·.2))) (gName i)) := by
  refine ⟨fun pins s σ H D I h => ?_⟩
  rw [exec_Assign_Name_used _ _ _ _ hsw]
  refine wpAny_bind (wpAny_standAt (wpAny_bind ?_))
  show wpAny _ X.A (do let _ ← comprehension (.DictComp kx vx [⟨tg, iter, ifs, 0⟩] scope pos) scope X.env (firstIterPos [⟨tg, iter, ifs, 0⟩] pos) newDict false (eval iter X.env) (some (assign (.Name y py) X.env))) _ _ s
  have h : tDc wi g tt tk tv (own.map (·.2)) σ H (fun x H1 => gName i x σ H1 D.nx) := h
  refine wpAny_bind (thn (dc_core (Qf := fun _ s' => SP X pins D .next s') hc hN I hi ok hg ht hk he hs h fun L C s' m H' I' q hn f => ?_) fun _ s' hq => wpAny_pure (wpAny_pure hq))
  show wpAny _ _ (assign (.Name y py) X.env (.ref L)) _ _ _
  refine wpAny_assign_Name (store_ok2 (v := V.ref L) I' hN hy (.inl hyl) rfl (fun s2 I2 ⟨a, sb, ha⟩ => ?_) (.inr hyl))
  obtain ⟨f0, f1, f2, f3, f4, f5⟩ := f
  have haC : C ≠ a := by
    rcases ha with z | z
    · rw [z]; exact f1
    · exact fun e => f4 y a z e.symm
  refine ⟨m, hn.sameBut sb haC, fun h3 sb3 => ?_⟩
  exact ⟨_, H', I2.turned (t' := s2.toks) (fun b o hb e => (sb3.2 b hb).trans e) f0 f1 f3 f4 f5, q⟩
theorem sw_trueD {kx vx : Expr} {gs : List Comprehension} {scope : Scope} {pos py : Pos} {y : Str} {l : Nat} {env : Env} (hk : env.scope.kind = .function) (hy : env.scope.names.lookup y = some .local) (hl : (py.line == pos.line) = true)
    (ha : (scope.names.any fun (n, k) => n == y && (k == .local || k == .cell)) = false) : swapsWith (.DictComp kx vx gs scope pos) (some (.Name y py)) l env = pure true := by
  have ky : env.kindOf y = some .local := hy
  have hb : env.blockKind = .function := by unfold Env.blockKind; rw [hk]; rfl
  unfold swapsWith
  simp only [hb, ky, ha, Expr.pos, hl]
  rfl
end
end OS
namespace OZ
open PySem L2 PySem.Spec PyProof.Rows
section
variable {M : Mode} {X : Cx} {KE : Kx} {sl sw : List Sl} {P : Da → Nat → Prop} {m j k : Nat} {pos : Pos} {N : List Str} {sc : Scope} {B : Bd} {own : List (Str × Nat)} {C : Addr} {F : FD}
/-- name = {.. for ..}: the dict is own -/
theorem st1_setDc {KE : Ks} {D : Kn} {tg iter kx vx : Expr} {ifs : List Expr} {scope : Scope} {y : Str} {py spos : Pos} (cx : Ctx X N sc B) (hr : Room j X.A) (ot : OwnT N tg own) (wp : WipeS N own sl sw) (h : IterD M X (KE sl) tg iter sl (fun ds m1 => ds.length < sizeLine ∧ CompK (dcStep M X scope N sc B j (own.map (·.2)) tg ifs kx vx sw) ds [] (fun r m2 => ∃ i sl', EnvSet N sl y i (.m (.dct r)) sl' ∧ D.nx sl' m2) m1) m)
    (hsw : swapsWith (.DictComp kx vx [⟨tg, iter, ifs, 0⟩] scope pos) (some (.Name y py)) spos.line X.env = pure true := by with_unfolding_all exact OS.sw_trueD rfl rfl rfl (by decide +kernel)) (hN : ∃ i : Nat, N[i]? = some y) (hyl : sc.names.lookup y = some .local := by with_unfolding_all rfl)
    (hb : blkC N sc scope own = true := by with_unfolding_all decide +kernel) (hc : X.calm = true := by with_unfolding_all rfl) (hs : ∀ x, foldedSetIterable iter X.env x = pure x := by with_unfolding_all (intro _; rfl)) : St1 M X KE (.Assign [.Name y py] (.DictComp kx vx [⟨tg, iter, ifs, 0⟩] scope pos) spos) sl D m := by
  intro G0 H0 G H σ W E ok so wi po
  obtain ⟨i, hi⟩ := hN
  refine wpS.of (OS.ps_setDc (own := own) (i := i) (wi := wpI X tg iter) (g := gBlk X scope tg) (tt := tBlk X scope ifs) (tk := eBlk X scope kx) (tv := eBlk X scope vx) hc cx.nd (by rw [cx.n]; exact hi) (by rw [cx.s]; exact hyl) hsw pi_wp ?_ ?_ ?_ ?_ ?_ hs) ?_
  · rw [cx.n, cx.s]; exact blkOk_by hb
  · exact fun s Hb C cl fp => ⟨fun pins s' σ H v u Q I r q => q s Hb C cl fp pins s' u I r⟩
  · intro s Hb C cl fp
    match ifs with
    | [] => exact pts_nil
    | [c] => exact pts_one ⟨fun pins s' σ H Q I q => q s Hb C cl fp pins s' I⟩
    | _ :: _ :: _ => exact ⟨fun pins s' σ H Q I q => q.elim⟩
  · exact fun s Hb C cl fp => ⟨fun pins s' σ H Q I q => q s Hb C cl fp pins s' I⟩
  · exact fun s Hb C cl fp => ⟨fun pins s' σ H Q I q => q s Hb C cl fp pins s' I⟩
  · refine h G0 H0 G H σ W _ ok so (wi.at ok so) fun J ds m1 G1 H1 q o1 wk => fun D2 hD => ?_
    refine dc_run (P := fun d m2 => ∃ i sl', EnvSet N sl y i (.m d) sl' ∧ D.nx sl' m2) cx hr hc wp ok so o1 wk q.1 q.2 (Q := fun v H' => gName i v σ H' E.nx) D2 hD fun out m' G1 H' p k g h0 nx r => ?_
    have n : New X.K M H G1 H' D2 (.dct out) := ⟨g, h0, nx, r⟩
    obtain ⟨i', sl', es, p⟩ := p
    have hii : i' = i := nd_ix (cx.n ▸ cx.nd) es.name hi
    subst hii
    refine po.nx _ sl' m' _ H' p (ok.trans k) ?_
    rw [es.set]
    exact (so.step k).newM i' (n.back ok) (held_ne (G0 := G0) so n.h0)
/-- {kx: vx for a, b in ds} -/
theorem compk_two {kx vx : Expr} {scope : Scope} {x y : Str} {p1 p2 tp : Pos} {kk : Nat} {vs : List Nat} {i1 i2 : Nat} (I : Nat → List (Key × Da) → Nat → Prop) {ds : List Da} {K : List (Key × Da) → Nat → Prop} (hi1 : IdxAt N x i1) (hi2 : IdxAt N y i2) (hN : sl.length = N.length) (hv1 : i1 ∈ vs) (hv2 : i2 ∈ vs) (h0 : I 0 [] m)
    (h : ∀ n d acc m, ds[n]? = some d → I n acc m → ∃ a b, d = .tup [a, b] ∧ AllX X scope N sc B j fun X' => EvD M X' K0 kx ((sl.set i1 (.v a)).set i2 (.v b)) (fun y m2 => ∃ q, y = keyD q ∧ AllX X scope N sc B j fun X' => EvD M X' K0 vx ((sl.set i1 (.v a)).set i2 (.v b)) (fun z m3 => I (n + 1) (putD acc q z) m3) m2) m)
    (k : ∀ r m, I ds.length r m → K r m) (hl1 : (relabelS scope sc).names.lookup x = some .local := by with_unfolding_all rfl) (hl2 : (relabelS scope sc).names.lookup y = some .local := by with_unfolding_all rfl) : CompK (dcStep M X scope N sc B j vs (.Tuple [.Name x p1, .Name y p2] kk tp) [] kx vx sl) ds [] K m :=
  compk_go dcstep_mono I ds 0 [] m K h0 (fun n d acc m e q => by
    rw [Nat.zero_add] at q ⊢
    obtain ⟨a, b, rfl, hh⟩ := h n d acc m e q
    refine ⟨_, [i1] ++ [i2], fun s H C cl fp cx hr => .two (.name (.of hi1 hN) (.inl hl1) (.inr (by rw [cx.s]; exact hl1))) (.name (.of hi2 (by rw [List.length_set]; exact hN)) (.inl hl2) (.inr (by rw [cx.s]; exact hl2))), fun a ha => ?_, hh⟩
    rcases List.mem_cons.mp ha with z | z
    · rw [z]; exact hv1
    · rw [List.mem_singleton.mp z]; exact hv2) fun r m q => k r m (by simpa using q)
/-- o[i] by the own __getitem__ -/
structure GetG (M : Mode) (B : Bd) (k : Nat) (C : Addr) (F : FD) : Prop where
  ex : ∃ g : Addr, OS.Own B.K C "__getitem__" g ∧ PySem.W.fnIn B.K g = true ∧ FnG M B k g 2 F
theorem GetG.lift {M : Mode} {B : Bd} {k : Nat} {C : Addr} {F : FD} (c : GetG pureM B k C F) : GetG M B k C (FP F) := by
  obtain ⟨g, h1, h2, h3⟩ := c.ex
  exact ⟨g, h1, h2, h3.lift⟩
theorem evd_ixO {KE : Kx} {a b : Expr} (cx : Ctx X N sc B) (c : GetG M B k C F) (hr : Room j X.A) (h : EvD M X KE a sl (fun x m1 => EvD M X KE b sl (fun y m2 => ∃ fs, x = .obj C fs ∧ F [x, y] P KE m2) m1) m) (hk : k + 1 ≤ j := by with_unfolding_all decide)
    (hs : ∀ x i, subscripted b true (.ref x) i = runValue (.builtin "lifetime.subscript" ⟨[.ref x, i], []⟩) := by with_unfolding_all (intro _ _; rfl)) : EvD M X KE (.Subscript a b pos) sl P m := by
  have eb := cx.b
  subst eb
  obtain ⟨g, o, fi, fg⟩ := c.ex
  intro G0 H0 G H σ W Q ok so wi po pins s I
  refine Subscript_ (h.run ok so wi I fun u s1 v d m1 G1 H1 p1 k1 o1 so1 wi1 r1 I1 rv1 => ?_)
  refine p1.run k1 so1 wi1 I1 fun u2 s2 v2 d2 m2 G2 H2 p2 k2 o2 so2 wi2 r2 I2 rv2 => ?_
  obtain ⟨fs, rfl, q⟩ := p2
  have r10 := r1.mono o2.le
  obtain ⟨a, dx, ws, rfl, ea, _⟩ := r10.obj_inv
  cases rv1
  obtain ⟨mA, J, _⟩ := ins_get I2.hok (k2.sub _ _ ea)
  obtain ⟨od, J, _⟩ := J.look
  obtain ⟨mm, hF⟩ := I2.fr
  exact PySem.W.sub_K hF I2.ok.mod.kin J o.at_ fi o.fn (run_atD fg (Sub.in1 (n := k) ⟨hr.mono hk, rfl⟩) (Nat.le_refl _) rfl q k2.here wi2 (.cons r10 (.cons r2 .nil)) I2 (.cons rfl (.cons rv2 .nil)) fun v d m' G' H' u s' p o3 rr I' rv => ⟨v, H', I', rv, po _ _ m' G' H' p ((o1.trans o2).trans o3) rr⟩) (hs _ _)
theorem opd_mulOI {KE : Kx} {fs : List (Str × Da)} {i : Int} (cx : Ctx X N sc B) (c : SpecG M B k C "__mul__" 2 F) (b : BinI B.K C .Mult) (hr : Room j X.A) (h : F [.obj C fs, .int i] P KE m) (hk : k ≤ j := by with_unfolding_all decide) : OpD M X KE (binaryOp .Mult) (.obj C fs) (.int i) P m := opd_ownI (op := .Mult) cx c b hr h hk
theorem opd_addOI {KE : Kx} {fs : List (Str × Da)} {i : Int} (cx : Ctx X N sc B) (c : SpecG M B k C "__add__" 2 F) (b : BinI B.K C .Add) (hr : Room j X.A) (h : F [.obj C fs, .int i] P KE m) (hk : k ≤ j := by with_unfolding_all decide) : OpD M X KE (binaryOp .Add) (.obj C fs) (.int i) P m := opd_ownI (op := .Add) cx c b hr h hk
theorem opd_subOI {KE : Kx} {fs : List (Str × Da)} {i : Int} (cx : Ctx X N sc B) (c : SpecG M B k C "__sub__" 2 F) (b : BinI B.K C .Sub) (hr : Room j X.A) (h : F [.obj C fs, .int i] P KE m) (hk : k ≤ j := by with_unfolding_all decide) : OpD M X KE (binaryOp .Sub) (.obj C fs) (.int i) P m := opd_ownI (op := .Sub) cx c b hr h hk
theorem opd_addG {KE : Kx} {fs gs : List (Str × Da)} (cx : Ctx X N sc B) (c : SpecG M B k C "__add__" 2 F) (hc : PySem.W.selfFirst B.K C = true) (hr : Room j X.A) (h : F [.obj C fs, .obj C gs] P KE m) (hk : k ≤ j := by with_unfolding_all decide) : OpD M X KE (binaryOp .Add) (.obj C fs) (.obj C gs) P m := by
  have eb := cx.b
  subst eb
  exact opd_own2 (op := .Add) cx c hc hr h hk
theorem opd_subG {KE : Kx} {fs gs : List (Str × Da)} (cx : Ctx X N sc B) (c : SpecG M B k C "__sub__" 2 F) (hc : PySem.W.selfFirst B.K C = true) (hr : Room j X.A) (h : F [.obj C fs, .obj C gs] P KE m) (hk : k ≤ j := by with_unfolding_all decide) : OpD M X KE (binaryOp .Sub) (.obj C fs) (.obj C gs) P m := by
  have eb := cx.b
  subst eb
  exact opd_own2 (op := .Sub) cx c hc hr h hk
end
end OZ
namespace OZ
open PySem L2 PySem.Spec PyProof.Rows
/-- for a, b in ds -/
theorem for_inv2 {M : Mode} {X : Cx} {KE : Ks} {D : Kn} {N : List Str} {sc : Scope} {x y : Str} {p1 p2 tp : Pos} {kk : Nat} {st : List Stmt} {i1 i2 : Nat} {B : Bd} (cx : Ctx X N sc B) (I : Nat → List Sl → Nat → Prop) {ds : List Da} {sl : List Sl} {m : Nat} (hi1 : IdxAt N x i1) (hi2 : IdxAt N y i2) (h0 : I 0 sl m) (hN : ∀ n sl m, I n sl m → sl.length = N.length)
    (h : ∀ j d sl m, ds[j]? = some d → I j sl m → ∃ a b, d = .tup [a, b] ∧ StD M X KE st ((sl.set i1 (.v a)).set i2 (.v b)) { D with nx := I (j + 1), ct := I (j + 1), bk := D.nx } m) (k : ∀ sl m, I ds.length sl m → D.nx sl m)
    (hl1 : Loc sc x := by with_unfolding_all first | exact Or.inl rfl | exact Or.inr rfl) (hl2 : Loc sc y := by with_unfolding_all first | exact Or.inl rfl | exact Or.inr rfl) (hf1 : X.fn x = true ∨ X.env.scope.names.lookup x = some .local := by with_unfolding_all first | exact Or.inl rfl | exact Or.inr rfl) (hf2 : X.fn y = true ∨ X.env.scope.names.lookup y = some .local := by with_unfolding_all first | exact Or.inl rfl | exact Or.inr rfl) :
    ForD (fun d sl D m => ∃ sl' is, Tg X N sc (.Tuple [.Name x p1, .Name y p2] kk tp) d sl sl' is ∧ StD M X KE st sl' D m) D ds sl m :=
  ford_inv for_mono I h0 (fun j d sl m e q => by
    obtain ⟨a, b, rfl, hh⟩ := h j d sl m e q
    exact ⟨_, [i1] ++ [i2], .two (.name (.of hi1 (hN j sl m q)) hl1 hf1) (.name (.of hi2 (by rw [List.length_set]; exact hN j sl m q)) hl2 hf2), hh⟩) k
end OZ
namespace OS
open PySem L2 PySem.Spec PyProof.Rows
/-! ### tuple(d): the keys of a dict -/
theorem code_tuple_src {prog : Program} {w : World} {A : Around} {E : Value → Shared → Prop} {s : Shared} {T : String} {r d : Addr} {n : Nat} {Pk : Nat → Value → Prop} {OK : Heap → Prop} {Q₁ : Value → Shared → Prop}
    (Ks : PySem.W.KdlSrc prog w T r d n Pk OK) (hh : A.handled = none) (hok : OK s.heap) (hn : n ≤ sizeLine)
    (h : ∀ (h' : Heap) (tk : Nat) (acc : Array Value), (∀ (b : Addr) (o : Obj), s.heap.get? b = some o → h'.get? b = some o) → ItemsOf Pk acc n → Q₁ (.ref h'.objs.size) { heap := h'.push { cls := .type "tuple", data := .seq acc }, gens := s.gens, drawn := s.drawn, toks := tk, os := s.os }) :
    codeAny (model prog w) A (.call (.builtin "tuple.__new__") { pos := [.type "tuple", .ref r] }) (wants Q₁ E) s := by
  refine codeAny_of_tree (wpAny_bind (wpAny_of_eq (F.newCall_tuple_1 (Value.ref r)) (wpAny_pure ⟨plainId_quiet F.plain_tuple_new { pos := [Value.type "tuple", Value.ref r] }, codeAny_builtin F.entry_tuple_new ?_⟩)))
  rw [Around.under_plainId F.plain_tuple_new { pos := [Value.type "tuple", Value.ref r] }]
  have hsub := sub_tuple_self
  have hinit := init_tuple_lookup
  have hmh := madeHere_tuple
  have hTI := Ks.type s hok
  refine wpAny_bind (wpAny_pure (wpAny_ite_false rfl (wpAny_bind (wpAny_of_eq hsub (wpAny_ite_false rfl (wpAny_ite_false rfl (wpAny_bind (wpAny_of_eq hmh (wpAny_bind (wpAny_of_eq hinit (wpAny_ite_true rfl (wpAny_bind ?_))))))))))))
  unfold noKeywords
  refine wpAny_ite_true (by rfl) (wpAny_pure (wpAny_bind ?_))
  unfold checkCount
  refine wpAny_ite_false (by rfl) ?_
  refine wpAny_ite_false (by rfl) ?_
  refine wpAny_ite_false (by rfl) ?_
  refine wpAny_pure ?_
  refine wpAny_ite_true (by rfl) (wpAny_bind ?_)
  unfold Builtin.Tuple.tupleIsExact
  refine wpAny_bind (wpAny_typeOf hTI (wpAny_pure ?_))
  refine wpAny_ite_false ?_ ?_
  · rw [Ks.notTuple]
    rfl
  refine wpAny_bind ?_
  refine PySem.W.kdu_collect Ks hh hok hn fun h' tk acc kp hacc => ?_
  refine wpAny_bind (wpAny_pure ?_)
  refine wpAny_bind ?_
  have hsz : acc.size = n := hacc.1
  have e : acc.toList.toArray = acc := Array.toArray_toList
  rw [e]
  unfold Builtin.Tuple.tupleExact
  refine wpAny_newObj_type (wpAny_pure (h h' tk acc kp hacc)) ?_
  show acc.size ≤ sizeLine
  omega
theorem call_tuple_src {prog : Program} {w : World} {A : Around} {E : Value → Shared → Prop} {s : Shared} {T : String} {r d : Addr} {n : Nat} {Pk : Nat → Value → Prop} {OK : Heap → Prop} {Q : Value → Shared → Prop}
    (Ks : PySem.W.KdlSrc prog w T r d n Pk OK) (hh : A.handled = none) (hok : OK s.heap) (hn : n ≤ sizeLine)
    (h : ∀ (h' : Heap) (tk : Nat) (acc : Array Value), (∀ (b : Addr) (o : Obj), s.heap.get? b = some o → h'.get? b = some o) → ItemsOf Pk acc n → Q (.ref h'.objs.size) { heap := h'.push { cls := .type "tuple", data := .seq acc }, gens := s.gens, drawn := s.drawn, toks := tk, os := s.os }) :
    wpAny (model prog w) A (call (.type "tuple") [.ref r]) Q E s := by
  have hc := code_tuple_src (A := A.in1) (E := E) (Q₁ := fun obj s₁ => s₁.TypeIs obj "tuple" ∧ Q obj s₁) Ks (show A.in1.handled = none from hh) hok hn fun h' tk acc kp hacc => ⟨⟨_, Heap.get?_push_size h' rfl, rfl⟩, h h' tk acc kp hacc⟩
  refine callType_codes F.called_tuple (F.typeCall_tuple_1 (Value.ref r)) F.entry_object_init hc fun obj s₁ h₁ => ?_
  exact ⟨h₁.left, ⟨F.args_object_init_2 obj (Value.ref r), object_init_meets F.called_tuple.init.lookup F.called_tuple.made (of_decide_eq_true (id (Eq.refl true))) prog w A.in1 (wants (fun r s₂ => r = Value.none ∧ Q obj s₂) E) s₁ ⟨h₁.left, ⟨rfl, h₁.right⟩⟩⟩⟩
theorem call_tupleD {X : Cx} (hcalm : X.calm = true) : CallR X (.type "tuple") fun xs H Q => ∃ (a : Addr) (kvs : List (Key × V)), xs = [V.ref a] ∧ Rd H a (HO.dK kvs) ∧ ∀ p, H p = none → Q (V.ref p) (L2.upd H p (HO.tup (kvs.map fun kv => kV kv.1))) := by
  intro pins s σ H xs us Q I r q
  obtain ⟨a, kvs, rfl, hd, q⟩ := q
  obtain ⟨u, rfl, rx⟩ := L2.vals1 r
  cases rx
  obtain ⟨z, lo, vs, rel, dd⟩ := dk_rd I.hok hd
  obtain ⟨ep, hat⟩ := Heap.DictOf.dictAt dd
  have ek : kvs.map (fun kv => kV kv.1) = vs.map (fun kv => kV kv.1) := by
    have e := congrArg (List.map kV) (KV.keys rel)
    rw [List.map_map, List.map_map] at e
    exact e
  refine call_tuple_src (PySem.W.kdl_dict lo) (I.ok.hd hcalm) hat (by rw [← KV.length rel]; exact z) fun h' tk acc kp hacc => ?_
  have hv := keys_at (vs := vs) (us := acc.toList) (by rw [Array.length_toList]; exact hacc.1) fun j v e => hacc.2 j v (by rw [← Array.getElem?_toList]; exact e)
  have I1 := Inv.kept (t' := tk) I kp
  have I2 := Inv.laid I1 (t' := tk) (fun b o e => Heap.get?_push_of_some { cls := Value.type "tuple", data := Data.seq acc } e) (Nat.le_refl h'.objs.size) (o := HO.tup (kvs.map fun kv => kV kv.1)) (by
    have this : HO.tup (kvs.map fun kv => kV kv.1) = HO.tup (kvs.map fun kv => kV kv.1) := rfl
    refine ⟨by rw [List.length_map]; exact z, acc.toList, by rw [ek]; exact hv, ?_⟩
    rw [Array.toArray_toList]
    exact IsTup.new h' acc)
  exact ⟨V.ref h'.objs.size, _, I2, rfl, q _ (HOk.fresh I1.hok (Nat.le_refl h'.objs.size))⟩
end OS
namespace OZ
open PySem L2 PySem.Spec PyProof.Rows
theorem keyD_rep {K : PySem.W.Frag} {G : Hp} : ∀ k : Key, Rep K G (kV k) (keyD k)
  | .inl i => .int i
  | .inr s => .str s
theorem repk_keys {K : PySem.W.Frag} {G : Hp} : ∀ {kvs : List (Key × V)} {ks : List (Key × Da)}, RepK K G kvs ks → Reps K G (kvs.map fun kv => kV kv.1) (keysD ks)
  | _, _, .nil => .nil
  | _, _, .cons _ h => .cons (keyD_rep _) (repk_keys h)
section
variable {M : Mode} {X : Cx} {KE : Kx} {P : Da → Nat → Prop} {m : Nat}
theorem cd_tupK {ks : List (Key × Da)} (k : P (.tup (keysD ks)) m) (hc : X.calm = true := by with_unfolding_all rfl) : CallD M X KE (.type "tuple") [.dct ks] P m := .of (OS.call_tupleD hc) fun G H _ vs ok r po => by
  obtain ⟨v, rfl, r1⟩ := reps1 r
  obtain ⟨a, ob, kvs, rfl, q, t⟩ := r1.dct_inv
  refine ⟨a, kvs, rfl, .inr ⟨_, ok.sub _ _ q⟩, fun p hp => ?_⟩
  have al := ok.alloc (o := .tup (kvs.map fun kv => kV kv.1)) hp
  exact po _ _ m _ _ k al (.tup (sq_t upd_same) ((repk_keys t).mono al.le))
end
end OZ
namespace OZ
open PySem L2 PySem.Spec PyProof.Rows
section
variable {M : Mode} {X : Cx} {KE : Kx} {e : Expr} {es : List Expr} {kws : List Keyword} {sl : List Sl} {P : Da → Nat → Prop} {m : Nat} {x : Str} {p pos : Pos}
/-- C(e, .., k = v, ..), C an own class of the text -/
theorem evd_mkX {N : List Str} {sc : Scope} {B : Bd} {C : Addr} {ks : List Str} {k j n : Nat} {gD : List Da → List Da → List Da} {F : FI} (cx : Ctx X N sc B) (hm : B.mg x = some (.ref C)) (hkp : PySem.W.keepIn B.K (.ref C) = true) (c : MakeG M B k C n ks gD F) (hr : Room j X.A) (h : EvA M X KE (e :: es) sl (fun ds m1 => EvK M X KE kws sl (fun zs m2 => zs.length = ks.length ∧ ds.length = n ∧ F (gD ds zs) (fun fs m3 => P (.obj C fs) m3) KE m2) m1) m) (hk : k + 1 ≤ j := by with_unfolding_all decide) (hg : GlS sc x := by with_unfolding_all rfl) (hdb : (x == ("__debug__" : Str)) = false := by with_unfolding_all decide)
    (hall : (backToKw pos (keywordEach kws X.env)).all (·.1.isSome) = true := by with_unfolding_all rfl) (hks : (backToKw pos (keywordEach kws X.env)).filterMap (·.1) = ks := by with_unfolding_all rfl)
    (he : starEach (e :: es) X.env = (false, eval e X.env) :: starEach es X.env := by with_unfolding_all rfl) (hpl : ((backTo pos (starEach (e :: es) X.env)).any (·.1) || (backToKw pos (keywordEach kws X.env)).any (·.1.isNone)) = false := by with_unfolding_all rfl) : EvD M X KE (.Call (.Name x p) (e :: es) kws pos) sl P m := by
  have eb := cx.b
  subst eb
  exact evd_callX cx hm hkp (eva_imp h fun ds m1 q => evk_imp q fun zs m2 q => ⟨q.1, (MakeG.call c hr q.2.1 q.1 q.2.2 hk).toK⟩) hg hdb hall hks he hpl
end
end OZ

/-! ### try with several clauses, each with a name -/
namespace OZ
open PySem L2 PySem.Spec PyProof.Rows
abbrev Clause := Value × Nat × (Addr → Value → Option Addr → TS)
/-- the ends of a suite, seen from behind it: its name is gone -/
def nEnds (i : Nat) (D : Ends) : Ends := ⟨fun τ G => D.nx (τ.set i none) G, D.rt, fun τ G => D.bk (τ.set i none) G, fun τ G => D.ct (τ.set i none) G⟩
def wNm (K : PySem.W.Frag) (Wo : WX) (D : Ends) : List Clause → WX
  | [] => Wo
  | k :: r => fun c d τ G => ∃ b, PySem.W.exmOne K c k.1 = some b ∧ (b = true → ∀ p, G p = none → k.2.2 p c d (nEnds k.2.1 D) (τ.set k.2.1 (some (.ref p))) G) ∧ (b = false → wNm K Wo D r c d τ G)
inductive Hdn (X : Cx) : List ExceptHandler → List Clause → Prop
  | nil : Hdn X [] []
  | cons {x n : Str} {c : Value} {i : Nat} {t : Addr → Value → Option Addr → TS} {b0 : Stmt} {su : List Stmt} {q1 q2 : Pos} {hs : List ExceptHandler} {l : List Clause} (hc : Names X x c) (hi : X.N[i]? = some n) (hln : X.env.kindOf n = some .local)
      (hsu : ∀ (p : Addr) (o : Obj) (k : Value) (d : Option Addr) (pn : List (Addr × Obj)), Zc k d o → (∃ vs, o.data = .fields vs) → PSs (X.suite p ((p, o) :: pn)) (b0 :: su) (t p k d)) (r : Hdn X hs l) :
      Hdn X (.ExceptHandler (some (.Name x q1)) (some n) (b0 :: su) q2 :: hs) ((c, i, t) :: l)
theorem sp_try {X : Cx} {pins : List (Addr × Obj)} {pn : List (Addr × Obj)} {xe : Value → Shared → Prop} {D : Ends} {s1 : Shared} {f : Flow} (ok : X.Ok) (q : ∀ {τ G}, Inv (X.tr pn xe) [] τ G s1 → Inv X pins τ G s1) (h : SP (X.tr pn xe) [] D f s1) : SP X pins D f s1 := by
  cases f with
  | ret u => obtain ⟨w, τ, G, J, r, z⟩ := h; exact ⟨w, τ, G, q J, r, z⟩
  | _ => obtain ⟨τ, G, J, z⟩ := h; exact ⟨τ, G, q J, z⟩
section
variable {X : Cx} {body : List Stmt} {h0 : ExceptHandler} {hds : List ExceptHandler} {l : List Clause} {pos : Pos} {tb : WX → TS} {Wo : WX}
theorem ps_tryNm (hst : X.stack = X.env :: X.outer) (hfr : X.env.frame = some X.env.locals) (hN : X.N.Nodup) (tk : Takes X Wo)
    (hb : ∀ (W : WX) (pn : List (Addr × Obj)) (xe : Value → Shared → Prop), Takes (X.tr pn xe) W → PassesOwn (model X.prog X.w) X.A X.env xe → PSs (X.tr pn xe) body (tb W)) (hh : Hdn X (h0 :: hds) l) :
    PS X (.Try body (h0 :: hds) [] [] pos) (fun D τ G => tb (wNm X.K Wo D l) D τ G) := by
  refine ⟨fun pins s τ G D I h => ?_⟩
  have ok := I.ok
  have hA : X.A.frames = some (X.env :: X.outer) := by rw [ok.frames, hst]
  refine wpAny_Try_except ?_
  let xe : Value → Shared → Prop := fun e t1 => wpAny (model X.prog X.w) X.A (noteFrame e X.env) (fun _ t2 => wpAny (model X.prog X.w) X.A (setFlight e none) (fun _ t3 => wpAny (model X.prog X.w) X.A (handleBy e X.env (h0 :: hds)) (SP X pins D) X.xe t3) X.xe t2) X.xe t1
  have takes : Takes (X.tr (X.pn ++ pins) xe) (wNm X.K Wo D l) := by
    rintro u t0 ⟨p, B, tI, pins', τ', G', k, d, rfl, J', nb, up, sky, np, os, ag, w⟩
    have J : Inv X pins τ' G' tI := J'.ofTry ok
    have sky2 : Sky B (X.env :: X.outer) p (Zc k d) X.env.locals t0.heap := by rw [← hst]; exact sky
    show wpAny (model X.prog X.w) X.A (noteFrame (.ref p) X.env) _ _ _
    refine Sky.land Zc.steady hA hfr sky2 fun g3 fl3 up3 => ?_
    have J3 : Inv X pins τ' G' { t0 with heap := g3 } := J.landed nb fl3.1 (up.trans up3) os ag
    obtain ⟨o3, vs3, e3, z3, d3⟩ := fl3.there
    have out : p ∉ frs (X.env :: X.outer) := fun hm => by
      obtain ⟨_, o', e', hn⟩ := fl3.2.2.1.mem hm
      rw [e3] at e'
      cases e'
      exact hn _ d3
    have nL : p ≠ X.env.locals := fun z => out (List.mem_filterMap.mpr ⟨X.env, List.mem_cons_self, by rw [hfr, z]⟩)
    have nF : p ∉ X.fs := fun hm => by
      obtain ⟨v, hv, q⟩ := List.mem_filterMap.mp hm
      exact out (List.mem_filterMap.mpr ⟨v, List.mem_cons_of_mem _ hv, q⟩)
    have S3 := J3.suite e3 d3 np nL nF
    have go : ∀ {hs' : List ExceptHandler} {l' : List Clause}, Hdn X hs' l' → wNm X.K Wo D l' k d τ' G' → wpAny (model X.prog X.w) X.A (handleBy (.ref p) X.env hs') (SP X pins D) X.xe { t0 with heap := g3 } := by
      intro hs' l' hk
      induction hk with
      | nil =>
        intro w
        refine wpAny_handleBy_nil ?_
        obtain ⟨_, _, _, o4, vs4, T, oT, ts4, e4, _, d4, h4, _⟩ := id fl3
        unfold PySem.passOn
        refine wpAny_bind (wpAny_field e4 d4 h4 ?_)
        rw [if_neg (show ¬ ((Value.ref T == Value.none) = true) from by simp)]
        have fin : wpAny (model X.prog X.w) X.A (setFlight (.ref p) X.env.frame) (fun _ t4 => wpAny (model X.prog X.w) X.A (throw (.ref p) : Sem Flow) (SP X pins D) X.xe t4) X.xe { t0 with heap := g3 } := by
          rw [hfr]
          exact HandSPX.setFlight_upZ fl3 fun g4 hh4 up4 => wpAny_throw (tk _ _ ⟨p, B, tI, pins, τ', G', k, d, rfl, J, nb, (up.trans up3).trans up4, .inr (.inr (by rw [hst]; exact hh4)), np, os, ag, w⟩)
        first
          | exact wpAny_bind (wpAny_pure (wpAny_bind fin))
          | exact wpAny_bind fin
      | @cons x n c i t b0 su q1 q2 hs2 l2 hc hi hln hsu r ih =>
        intro w
        obtain ⟨b, hb1, yes, no⟩ := w
        refine wpAny_handleBy_cons (codeAny_handlers_test ?_) (by intro q; cases q)
        have LT : PySem.W.Looks (model X.prog X.w) g3 (typeOf (.ref p)) k := fun A Q E s kp q => wpAny_typeOf_ref (kp _ _ e3) (by rw [z3.1]; exact q)
        have LM := PySem.W.exm_one (M := model X.prog X.w) J3.kIn LT hb1
        have test : ∀ {Q : Value → Shared → Prop} {E : Value → Shared → Prop}, Q c { t0 with heap := g3 } → wpAny (model X.prog X.w) (X.A.mark (some (.ref p))) (eval (.Name x q1) X.env) Q E { t0 with heap := g3 } := fun {Q E} q => by
          obtain ⟨hg, hdbg, hm | ⟨hm, hv, hnn⟩⟩ := hc
          · exact ld_glob (X := X.suite p ((p, o3) :: (X.pn ++ pins))) S3 hg hm q hdbg
          · exact ld_blt (X := X.suite p ((p, o3) :: (X.pn ++ pins))) S3 hg hm hv q hnn hdbg
        refine test (LM.here ?_)
        cases b with
        | true =>
          refine codeAny_handlers_suite_as ?_
          refine HandSPX.lands_againZ fl3 fun g4 fl4 up4 => ?_
          have J4 : Inv X pins τ' G' { t0 with heap := g4 } := J.landed nb fl4.1 ((up.trans up3).trans up4) os ag
          obtain ⟨o4, vs4, e4, z4, d4⟩ := fl4.there
          have S4 := J4.suite e4 d4 np nL nF
          refine store_ok (X := X.suite p ((p, o4) :: (X.pn ++ pins))) (v := .ref p) S4 hN hi (.inl hln) rfl (fun t5 S5 => ?_) (.inr hln)
          refine wpAny_mono ((hsu p o4 k d (X.pn ++ pins) z4 ⟨_, d4⟩).run [] t5 _ G' _ S5 (yes rfl p np)) (fun f t6 hsp => ?_) (fun _ _ z => False.elim z)
          have gone : ∀ {τ6 : L2.St} {G6 : Hp} {Q : Shared → Prop}, Inv (X.suite p ((p, o4) :: (X.pn ++ pins))) [] τ6 G6 t6 → (∀ t7, Inv X pins (τ6.set i none) G6 t7 → Q t7) →
              wpAny (model X.prog X.w) X.A (do bindName X.env n .none; unbindBehindTheSuite X.env n q2) (fun _ t7 => Q t7) X.xe t6 := fun {τ6 G6 Q} S6 hq => gone_ok (S6.unsuite ok) hN hi hln hq
          cases f with
          | ret u => obtain ⟨v6, τ6, G6, S6, r6, q6⟩ := hsp; exact gone S6 fun t7 J7 => ⟨_, _, _, J7, r6, q6⟩
          | next => obtain ⟨τ6, G6, S6, q6⟩ := hsp; exact gone S6 fun t7 J7 => ⟨_, _, J7, q6⟩
          | brk => obtain ⟨τ6, G6, S6, q6⟩ := hsp; exact gone S6 fun t7 J7 => ⟨_, _, J7, q6⟩
          | cont => obtain ⟨τ6, G6, S6, q6⟩ := hsp; exact gone S6 fun t7 J7 => ⟨_, _, J7, q6⟩
        | false => exact ih (no rfl)
    exact go hh w
  refine wpAny_mono ((hb (wNm X.K Wo D l) (X.pn ++ pins) xe takes PassesOwn.looking).run [] s τ G D (I.toTry _) h) (fun f s1 hsp => ?_) (fun e s1 he => he)
  have hsp2 : SP X pins D f s1 := sp_try ok (fun J => J.ofTry ok) hsp
  cases f with
  | next => exact wpAny_execs_nil hsp2
  | ret u => exact hsp2
  | brk => exact hsp2
  | cont => exact hsp2
end
/-- over data: the clauses of a try -/
def TryL (M : Mode) (X : Cx) (KS : Ks) (D : Kn) : List (Addr × Nat × List Stmt) → Ks
  | [] => KS
  | k :: r => TryK M X (TryL M X KS D r) k.1 k.2.1 k.2.2 D
inductive HdC (N : List Str) (sc : Scope) (B : Bd) : List ExceptHandler → List (Addr × Nat × List Stmt) → Prop
  | nil : HdC N sc B [] []
  | cons {x n : Str} {C : Addr} {i : Nat} {b0 : Stmt} {su : List Stmt} {q1 q2 : Pos} {hs : List ExceptHandler} {l : List (Addr × Nat × List Stmt)} (hm : B.mg x = some (.ref C)) (hi : IdxAt N n i) (hl : sc.names.lookup n = some .local) (hg : GlS sc x) (hdb : (x == ("__debug__" : Str)) = false) (r : HdC N sc B hs l) :
      HdC N sc B (.ExceptHandler (some (.Name x q1)) (some n) (b0 :: su) q2 :: hs) ((C, i, b0 :: su) :: l)
section
variable {M : Mode} {X : Cx} {KS : Ks} {sl : List Sl} {D : Kn} {m : Nat} {pos : Pos} {N : List Str} {sc : Scope} {B : Bd} {body : List Stmt} {h0 : ExceptHandler} {hds : List ExceptHandler} {l : List (Addr × Nat × List Stmt)}
def clOf (X : Cx) (k : Addr × Nat × List Stmt) : Clause := (.ref k.1, k.2.1, fun p c d E τ G => ∀ o pn, Zc c d o → (∃ vs, o.data = .fields vs) → wpSs (X.suite p ((p, o) :: pn)) k.2.2 E τ G)
theorem HdC.hdn (cx : Ctx X N sc B) : ∀ {hs : List ExceptHandler} {l : List (Addr × Nat × List Stmt)}, HdC N sc B hs l → Hdn X hs (l.map (clOf X))
  | _, _, .nil => .nil
  | _, _, .cons hm hi hl hg hdb r => .cons ⟨cx.gl hg, hdb, .inl (cx.mg hm)⟩ (by rw [cx.n]; exact hi.at) (by unfold Env.kindOf; rw [cx.s]; exact hl) (fun p o k d pn hz hf => ⟨fun pins s τ G E I q => q o pn hz hf pins s I⟩) (r.hdn cx)
theorem st1_tryL (cx : Ctx X N sc B) (hh : HdC N sc B (h0 :: hds) l) (h : ∀ pn xe, PassesOwn (model X.prog X.w) X.A X.env xe → StD M (X.tr pn xe) (TryL M X KS D l) body sl D m)
    (hst : X.stack = X.env :: X.outer := by with_unfolding_all rfl) (hf : X.env.frame = some X.env.locals := by with_unfolding_all rfl) : St1 M X KS (.Try body (h0 :: hds) [] [] pos) sl D m := by
  intro G0 H0 G H σ W E ok so wi po
  refine wpS.of (ps_tryNm (Wo := W) (tb := fun W' E σ H => ∀ pn xe, Takes (X.tr pn xe) W' → PassesOwn (model X.prog X.w) X.A X.env xe → wpSs (X.tr pn xe) body E σ H) hst hf cx.nd wi.tk
    (fun W' pn xe tk ps => ⟨fun pins s σ H E I q => q pn xe tk ps pins s I⟩) (hh.hdn cx)) ?_
  intro pn xe tk ps
  refine h pn xe ps G0 H0 G H σ _ E ok so ⟨tk, ?_⟩ po
  clear h hh tk ps
  induction l with
  | nil => exact wi.ex
  | cons k r ih =>
    rintro C' fs d σ' sl' m' G' H' ⟨b, hb, h1, h2⟩ ok' so' xr
    refine ⟨b, hb, fun hb1 a ha => ?_, fun hb2 => ih C' fs d σ' sl' m' G' H' (h2 hb2) ok' so' xr⟩
    obtain ⟨hA, hB⟩ := h1 hb1
    have post : PostS M X.K G0 H0 { D with nx := fun s n => D.nx (s.set k.2.1 .un) n, bk := fun s n => D.bk (s.set k.2.1 .un) n, ct := fun s n => D.ct (s.set k.2.1 .un) n } (nEnds k.2.1 E) :=
      ⟨fun σ sl m G H q ok so => po.nx _ _ m G H q ok (so.setN _), po.rt, fun σ sl m G H q ok so => po.bk _ _ m G H q ok (so.setN _), fun σ sl m G H q ok so => po.ct _ _ m G H q ok (so.setN _), po.rn⟩
    intro oe pn2 hz hfl
    rcases xr with ⟨e1, e2⟩ | ⟨dd, vs, e1, g, rf⟩
    · exact hB e1 a oe pn2 G0 H0 G' H' _ (fun _ _ _ _ => False) _ ok' (so'.setN _) ⟨takes0, fun _ _ _ _ _ _ _ _ z => z.elim⟩ post
    · subst e1
      exact hA a oe dd pn2 ⟨X, oe, pn2, rfl, hz, hfl⟩ G0 H0 G' H' _ (fun _ _ _ _ => False) _ ok' (so'.setV _ (.exc g rf)) ⟨takes0, fun _ _ _ _ _ _ _ _ z => z.elim⟩ post
/-- by what stands at the clauses; the body raises errors with fields only -/
theorem st1_tryLI (I : Addr → List Sl → List (Str × Da) → Nat → Prop) (cx : Ctx X N sc B) (hh : HdC N sc B (h0 :: hds) l)
    (h : ∀ pn xe, PassesOwn (model X.prog X.w) X.A X.env xe → Ctx (X.tr pn xe) N sc B → StD M (X.tr pn xe) (fun sl' C' fs m' => fs.isEmpty = false ∧ I C' sl' fs m') body sl D m)
    (h2 : ∀ C' sl' fs m', fs.isEmpty = false → I C' sl' fs m' → TryL M X KS D l sl' C' fs m')
    (hst : X.stack = X.env :: X.outer := by with_unfolding_all rfl) (hf : X.env.frame = some X.env.locals := by with_unfolding_all rfl) : St1 M X KS (.Try body (h0 :: hds) [] [] pos) sl D m := by
  refine st1_tryL cx hh (fun pn xe ps => ?_) hst hf
  have := h pn xe ps (ctx_tr cx pn xe)
  intro G0 H0 G H σ W E ok so wi po
  refine this G0 H0 G H σ W E ok so ⟨wi.tk, ?_⟩ po
  rintro C' fs d σ' sl' m' G' H' ⟨hne, hI⟩ ok' so' xr
  exact wi.ex C' fs d σ' sl' m' G' H' (h2 C' sl' fs m' hne hI) ok' so' xr
end
/-- C' is caught by a clause for C, or not -/
structure ExG (B : Bd) (C' C : Addr) (b : Bool) : Prop where
  ex : PySem.W.exmOne B.K (.ref C') (.ref C) = some b
section
variable {M : Mode} {X : Cx} {KS : Ks} {C C' : Addr} {i : Nat} {su : List Stmt} {D : Kn} {sl : List Sl} {fs : List (Str × Da)} {m : Nat} {N : List Str} {sc : Scope} {B : Bd} {r : List (Addr × Nat × List Stmt)}
theorem tryl_hit (cx : Ctx X N sc B) (e : ExG B C' C true) (hne : fs.isEmpty = false)
    (h : ∀ p o dd pn, SuX (X.suite p ((p, o) :: pn)) C' p dd → Ctx (X.suite p ((p, o) :: pn)) N sc B → StD M (X.suite p ((p, o) :: pn)) (fun _ => K0) su (sl.set i (.v (.exc p dd fs))) { D with nx := fun s n => D.nx (s.set i .un) n, bk := fun s n => D.bk (s.set i .un) n, ct := fun s n => D.ct (s.set i .un) n } m) : TryL M X KS D ((C, i, su) :: r) sl C' fs m := by
  have eb := cx.b
  subst eb
  exact tryk_hit e.ex hne fun p o dd pn su => h p o dd pn su (ctx_suite cx p _)
theorem tryl_pass (cx : Ctx X N sc B) (e : ExG B C' C false) (h : TryL M X KS D r sl C' fs m) : TryL M X KS D ((C, i, su) :: r) sl C' fs m := by
  have eb := cx.b
  subst eb
  exact tryk_pass e.ex h
end
end OZ
/-! ### class values, read through an object or the class -/
namespace OZ
open PySem L2 PySem.Spec PyProof.Rows
/-- C.f is the text (number) d, for C and for its objects -/
structure ConG (K : PySem.W.Frag) (C : Addr) (f : Str) (d : Da) : Prop where
  ex : ∃ (v : V) (u : Value), Con K C f v u ∧ (∀ G, Rep K G v d) ∧ ∃ mc, ClX.CRead K C mc ∧ ClX.CVal K C mc f v u
section
variable {M : Mode} {X : Cx} {KE : Kx} {e : Expr} {sl : List Sl} {P : Da → Nat → Prop} {m : Nat} {pos : Pos} {f : Str} {N : List Str} {sc : Scope} {B : Bd}
theorem evd_con (cx : Ctx X N sc B) (h : EvD M X KE e sl (fun x m1 => (∃ C, x = .ref C ∧ ∃ d, ConG B.K C f d ∧ P d m1) ∨ (∃ C fs, x = .obj C fs ∧ Cls B.K C ∧ fs.lookup f = none ∧ ∃ d, ConG B.K C f d ∧ P d m1)) m) (hb : attributeBase e f X.env (eval e X.env) = eval e X.env := by with_unfolding_all rfl) : EvD M X KE (.Attribute e f pos) sl P m := by
  have eb := cx.b
  subst eb
  intro G0 H0 G H σ W Q ok so wi po pins s I
  refine attr_of hb (h.run ok so wi I fun u s1 v x m1 G1 H1 p1 k1 o1 so1 wi1 r1 I1 rv1 => ?_)
  rcases p1 with ⟨C, rfl, d, c, p⟩ | ⟨C, fs, rfl, cl, hl, d, c, p⟩
  · obtain ⟨w, uc, cn, rp, mc, cr, cv⟩ := c.ex
    cases r1
    obtain rfl : u = Value.ref C := rv1
    exact ClX.getcval_ok I1 cr cv fun s2 I2 => ⟨w, H1, I2, cn.rel, po w d m1 G1 H1 p o1 (rp G1)⟩
  · obtain ⟨w, uc, cn, rp, mc, cr, cv⟩ := c.ex
    obtain ⟨a, dx, ws, rfl, ea, rf⟩ := r1.obj_inv
    obtain rfl : u = Value.ref a := rv1
    exact getcon_ok I1 (k1.sub _ _ ea) cl cn (rf.lookN hl) fun s2 I2 => ⟨w, H1, I2, cn.rel, po w d m1 G1 H1 p o1 (rp G1)⟩
end
end OZ
/-! ### an own dict is looked at for a while -/
namespace OZ
open PySem L2 PySem.Spec PyProof.Rows
/-- behind the look: the dict as it was -/
theorem Ok.unlock {M : Mode} {G H G' H' : Hp} {m m' : Nat} {a : Addr} {u : HO} {w : HO} (ok0 : Ok M G H G H m) (hu : H a = some u) (ga : G a = none) (nx : ¬ M.X H a) (ok : Ok M (L2.upd G a w) (L2.upd H a w) G' H' m') : Ok M G H G (L2.upd H' a u) m' := by
  have ga' : G' a = some w := ok.le _ _ upd_same
  have nx' : ¬ M.X H' a := fun z => by rw [ok.off _ z] at ga'; cases ga'
  obtain ⟨c1, c2⟩ := M.clo m' H' (L2.upd H' a u) ok.inv fun b o x e => by rw [upd_ne (fun q => nx' (by rw [← q]; exact x))]; exact e
  have cx := (M.clo m H (L2.upd H a w) ok0.inv fun b o x e => by rw [upd_ne (fun q => nx (by rw [← q]; exact x))]; exact e).2
  have ne : ∀ b o, G b = some o → b ≠ a := fun b o e q => by rw [q, ga] at e; cases e
  refine ⟨fun b o e => ?_, c1, fun b x => ?_, Same.refl _, fun b o e n => ?_, fun _ _ _ _ g => g⟩
  · rw [upd_ne (ne b o e)]
    exact ok.sub _ _ (ok.le _ _ (by rw [upd_ne (ne b o e)]; exact e))
  · cases e : G b with
    | none => rfl
    | some o =>
      have h1 := ok.off _ (c2 _ x)
      rw [ok.le b o (by rw [upd_ne (ne b o e)]; exact e)] at h1
      cases h1
  · by_cases q : b = a
    · subst q
      rw [upd_same, ← hu]
      exact ⟨e, fun z => nx' (c2 _ z)⟩
    · obtain ⟨h1, h2⟩ := ok.keep b o (by rw [upd_ne q]; exact e) fun z => n (cx _ z)
      exact ⟨by rw [upd_ne q]; exact h1, fun z => h2 (c2 _ z)⟩
section
variable {M : Mode} {X : Cx} {KE : Kx} {e : Expr} {sl : List Sl} {P : Da → Nat → Prop} {PT' : Bool → Nat → Prop} {m i : Nat} {q : Option Addr} {ks : List (Key × Da)}
/-- an own dict is looked at for a while: the value told is flat; nothing is raised -/
theorem evd_borK (hi : sl[i]? = some (.mm q (.dct ks))) (h : EvD M X K0 e (sl.set i (.v (.dct ks))) (fun z m' => flD z = true ∧ P z m') m) : EvD M X KE e sl P m := by
  intro G0 H0 G H σ W Q ok so wi po pins s I
  obtain ⟨a, e1, ga, nx, h0, ⟨kvs, hu, rk⟩, f⟩ := sok_pub' so hi
  obtain ⟨od, I2⟩ := I.lock hu trivial
  have rep : Rep X.K (L2.upd G a (.frz od (.dK kvs))) (.ref a) (.dct ks) := .dct upd_same (RepK.mono (sameUp ga) rk)
  refine thn (h G0 H0 _ _ σ W (fun v H' => ∃ G' z m', flD z = true ∧ P z m' ∧ Ok M (L2.upd G a (.frz od (.dK kvs))) (L2.upd H a (.frz od (.dK kvs))) G' H' m' ∧ Rep X.K G' v z) (ok.mpub ga nx h0) (f _ rep (ok.xk nx)) ⟨wi.tk, fun _ _ _ _ _ _ z => z.elim⟩ (fun v z m' G' H' ⟨fl, p⟩ o r => ⟨G', z, m', fl, p, o, r⟩) pins s I2) fun v s1 hq => ?_
  obtain ⟨x, H1, I1, rx, G', z, m', fl, p, o, r⟩ := hq
  have hl : H1 a = some (.frz od (.dK kvs)) := o.sub _ _ (o.le _ _ upd_same)
  exact ⟨x, _, I1.unlock hl (I.nofrz hu trivial), rx, po x z m' G _ p (Ok.unlock ok.here hu ga nx o) (flD_rep fl r)⟩
theorem evt_borK (hi : sl[i]? = some (.mm q (.dct ks))) (h : EvT M X K0 e (sl.set i (.v (.dct ks))) PT' m) : EvT M X KE e sl PT' m := by
  intro G0 H0 G H σ W R ok so wi po pins s I
  obtain ⟨a, e1, ga, nx, h0, ⟨kvs, hu, rk⟩, f⟩ := sok_pub' so hi
  obtain ⟨od, I2⟩ := I.lock hu trivial
  have rep : Rep X.K (L2.upd G a (.frz od (.dK kvs))) (.ref a) (.dct ks) := .dct upd_same (RepK.mono (sameUp ga) rk)
  refine thn (h G0 H0 _ _ σ W (fun b H' => ∃ G' m', PT' b m' ∧ Ok M (L2.upd G a (.frz od (.dK kvs))) (L2.upd H a (.frz od (.dK kvs))) G' H' m') (ok.mpub ga nx h0) (f _ rep (ok.xk nx)) ⟨wi.tk, fun _ _ _ _ _ _ z => z.elim⟩ (fun b m' G' H' p o => ⟨G', m', p, o⟩) pins s I2) fun b s1 hq => ?_
  obtain ⟨H1, I1, G', m', p, o⟩ := hq
  have hl : H1 a = some (.frz od (.dK kvs)) := o.sub _ _ (o.le _ _ upd_same)
  exact ⟨_, I1.unlock hl (I.nofrz hu trivial), po b m' G _ p (Ok.unlock ok.here hu ga nx o)⟩
end
/-! own.pop(k) -/
def rDpop : V → List V → Hp → VK → Prop := fun x vs H Q => ∃ (a : Addr) (kvs : List (Key × V)) (k : Key) (v : V), x = .ref a ∧ vs = [kV k] ∧ H a = some (.dK kvs) ∧ valV kvs k = some v ∧ Q v (L2.upd H a (.dK (dropK kvs k)))
theorem mt_dpop {X : Cx} : MtR X "dict.pop" rDpop := by
  intro pins s σ H x vs v us Q I rx rv h
  obtain ⟨a, kvs, k, w, rfl, rfl, hH, hw, q⟩ := h
  cases rx
  obtain ⟨u, rfl, ru⟩ := vals1 rv
  exact d_pop I hH ru hw (.inl rfl) fun w' s' I' r' => ⟨w, _, I', r', q⟩
theorem oc_dpop {X : Cx} : OwnC X "dict" "pop" "dict.pop" rDpop := ⟨PySem.F.plainAttrs_dict, PySem.F.slot_dict_pop, PySem.F.type_dict_pop, mt_dpop⟩
def delD (ks : List (Key × Da)) (k : Key) : List (Key × Da) := ks.filter fun kv => decide (kv.1 ≠ k)
end OZ
namespace OZ
open PySem L2 PySem.Spec PyProof.Rows
theorem tym_dctM {ks : List (Key × Da)} : TyM "dict" (.dct ks) := tym_dct
theorem repK_del {K : PySem.W.Frag} {G : Hp} (k : Key) : ∀ {kvs : List (Key × V)} {ks : List (Key × Da)}, RepK K G kvs ks → RepK K G (dropK kvs k) (delD ks k)
  | _, _, .nil => .nil
  | _, _, .cons (k := j) (vs := vs) (ds := ds) (v := v) (d := d) a b => by
    have ih := repK_del k b
    unfold dropK delD at ih ⊢
    rw [List.filter_cons, List.filter_cons]
    by_cases q : j = k
    · rw [if_neg (by simp [q]), if_neg (by simp [q])]; exact ih
    · rw [if_pos (by simp [q]), if_pos (by simp [q])]; exact .cons a ih
theorem own_dpop {X : Cx} {ks : List (Key × Da)} {k : Key} {d : Da} (h : look k ks = some d) : OwnR X rDpop (.dct ks) [keyD k] d (.dct (delD ks k)) := fun G H ad vs Q s rm r po => by
  obtain ⟨kvs, hl, rk⟩ := rm
  obtain ⟨v, rfl, rv⟩ := reps1 r
  obtain ⟨o, w1, _, w2⟩ := repK_get (k := k) rk
  obtain ⟨w, rfl, rw'⟩ := w2 d h
  exact ⟨ad, kvs, k, w, rfl, by rw [rep_key rv], hl, w1, po _ w ⟨_, upd_same, repK_del k rk⟩ rw'⟩
end OZ
namespace OZ
open PySem L2 PySem.Spec PyProof.Rows
section
variable {M : Mode} {X : Cx} {scope : Scope} {N : List Str} {sc : Scope} {B : Bd} {j : Nat} {vs : List Nat} {sl : List Sl} {m : Nat} {x : Str} {p : Pos}
/-- the comprehension [elt for x in xs.map g if c], elt the value f of each, c the test t, no drawing -/
theorem compd_filtL {α : Type} {c elt : Expr} {i : Nat} (g : α → Da) (t : α → Bool) (f : α → Da) {xs : List α} {K : List Da → Nat → Prop} (hi : IdxAt N x i) (hN : sl.length = N.length) (hv : i ∈ vs)
    (h : ∀ a ∈ xs, ∀ (P : Bool → Nat → Prop), P (t a) m → AllX X scope N sc B j fun X' => EvT M X' K0 c (sl.set i (.v (g a))) P m)
    (h2 : ∀ a ∈ xs, t a = true → ∀ (P : Da → Nat → Prop), P (f a) m → AllX X scope N sc B j fun X' => EvD M X' K0 elt (sl.set i (.v (g a))) P m) (k : K ((xs.filter t).map f) m)
    (hl : (relabelS scope sc).names.lookup x = some .local := by with_unfolding_all rfl) : CompD (lcStep M X scope N sc B j vs (.Name x p) [c] elt sl) (xs.map g) K m := by
  refine compd_allIf (fun n acc m' => m' = m ∧ acc = ((xs.take n).filter t).map f) hi hN hv ⟨rfl, rfl⟩ ?_ (fun r m' ⟨e1, e2⟩ => by rw [e1, e2, List.length_map, List.take_length]; exact k) hl
  rintro n d acc m' e ⟨rfl, rfl⟩
  rw [List.getElem?_map] at e
  obtain ⟨a, ha, rfl⟩ : ∃ a, xs[n]? = some a ∧ g a = d := by
    cases q : xs[n]? with
    | none => rw [q] at e; cases e
    | some a => rw [q] at e; cases e; exact ⟨a, rfl, rfl⟩
  have hm := List.mem_of_getElem? ha
  have tk : xs.take (n + 1) = xs.take n ++ [a] := by rw [List.take_succ, ha]; rfl
  refine h a hm _ ?_
  cases q : t a with
  | true =>
    rw [if_pos rfl]
    refine h2 a hm q _ ⟨rfl, ?_⟩
    rw [tk, List.filter_append, List.map_append, List.filter_cons, q]
    rfl
  | false =>
    rw [if_neg Bool.false_ne_true]
    refine ⟨rfl, ?_⟩
    rw [tk, List.filter_append, List.map_append, List.filter_cons, q]
    simp
end
end OZ

/-! ### own objects looked at by their names; displays; lists made by comprehensions; lifts -/
namespace OZ
open PySem L2 PySem.Spec PyProof.Rows
section
variable {ds : List Da} {M : Mode} {X : Cx} {KE : Kx} {a e : Expr} {sl sl2 : List Sl} {P : Da → Nat → Prop} {PT' : Bool → Nat → Prop} {m i : Nat} {q : Option Addr} {d : Da} {ks : List (Key × Da)} {x : Str} {p p2 pos : Pos} {N : List Str} {sc : Scope} {B : Bd} {op : CmpOp}
theorem envset_mm {i' : Nat} (cx : Ctx X N sc B) (hx : EnvAt N sl x i (.mm q d)) (es : EnvSet N sl x i' (.v d) sl2) : sl2 = sl.set i (.v d) := envset_eq (cx.n ▸ cx.nd) hx.name es
/-- len(x), x an own list -/
theorem evd_lenB {i' : Nat} (cx : Ctx X N sc B) (hx : EnvAt N sl x i (.mm q (.lst ds))) (es : EnvSet N sl x i' (.v (.lst ds)) sl2) (h : EvD M X (fun C fs m => flF fs = true ∧ KE C fs m) (.Call (.Name "len" p) [.Name x p2] [] pos) sl2 (fun z m' => flD z = true ∧ P z m') m) : EvD M X KE (.Call (.Name "len" p) [.Name x p2] [] pos) sl P m :=
  evd_bor hx.slot rfl (envset_mm cx hx es ▸ h)
theorem evd_lenBK {i' : Nat} (cx : Ctx X N sc B) (hx : EnvAt N sl x i (.mm q (.dct ks))) (es : EnvSet N sl x i' (.v (.dct ks)) sl2) (h : EvD M X K0 (.Call (.Name "len" p) [.Name x p2] [] pos) sl2 (fun z m' => flD z = true ∧ P z m') m) : EvD M X KE (.Call (.Name "len" p) [.Name x p2] [] pos) sl P m :=
  evd_borK hx.slot (envset_mm cx hx es ▸ h)
/-- x as a test -/
theorem evt_nameB {i' : Nat} (cx : Ctx X N sc B) (hx : EnvAt N sl x i (.mm q (.lst ds))) (es : EnvSet N sl x i' (.v (.lst ds)) sl2) (h : EvT M X (fun C fs m => flF fs = true ∧ KE C fs m) (.Name x p) sl2 PT' m) : EvT M X KE (.Name x p) sl PT' m :=
  evt_bor hx.slot rfl (envset_mm cx hx es ▸ h)
/-- e op x, x op e as tests -/
theorem evt_cmpRB {i' : Nat} (cx : Ctx X N sc B) (hx : EnvAt N sl x i (.mm q (.lst ds))) (es : EnvSet N sl x i' (.v (.lst ds)) sl2) (h : EvT M X (fun C fs m => flF fs = true ∧ KE C fs m) (.Compare a [op] [.Name x p] pos) sl2 PT' m) : EvT M X KE (.Compare a [op] [.Name x p] pos) sl PT' m :=
  evt_bor hx.slot rfl (envset_mm cx hx es ▸ h)
theorem evt_cmpRBK {i' : Nat} (cx : Ctx X N sc B) (hx : EnvAt N sl x i (.mm q (.dct ks))) (es : EnvSet N sl x i' (.v (.dct ks)) sl2) (h : EvT M X K0 (.Compare a [op] [.Name x p] pos) sl2 PT' m) : EvT M X KE (.Compare a [op] [.Name x p] pos) sl PT' m :=
  evt_borK hx.slot (envset_mm cx hx es ▸ h)
theorem evt_cmpLB {i' : Nat} (cx : Ctx X N sc B) (hx : EnvAt N sl x i (.mm q (.lst ds))) (es : EnvSet N sl x i' (.v (.lst ds)) sl2) (h : EvT M X (fun C fs m => flF fs = true ∧ KE C fs m) (.Compare (.Name x p) [op] [a] pos) sl2 PT' m) : EvT M X KE (.Compare (.Name x p) [op] [a] pos) sl PT' m :=
  evt_bor hx.slot rfl (envset_mm cx hx es ▸ h)
theorem evt_cmpLBK {i' : Nat} (cx : Ctx X N sc B) (hx : EnvAt N sl x i (.mm q (.dct ks))) (es : EnvSet N sl x i' (.v (.dct ks)) sl2) (h : EvT M X K0 (.Compare (.Name x p) [op] [a] pos) sl2 PT' m) : EvT M X KE (.Compare (.Name x p) [op] [a] pos) sl PT' m :=
  evt_borK hx.slot (envset_mm cx hx es ▸ h)
end
section
variable {M : Mode} {X : Cx} {KE : Kx} {sl : List Sl} {P : Da → Nat → Prop} {pos : Pos}
/-- the pairs of a display, from the left -/
def DispD (M : Mode) (X : Cx) (KE : Kx) (sl : List Sl) : List (Expr × Expr) → (List (Key × Da) → Nat → Prop) → Nat → Prop
  | [], K, m => K [] m
  | e :: r, K, m => EvD M X KE e.1 sl (fun y m1 => ∃ k, y = keyD k ∧ EvD M X KE e.2 sl (fun z m2 => DispD M X KE sl r (fun rest m3 => K ((k, z) :: rest) m3) m2) m1) m
theorem disp_run : ∀ (prs : List (Expr × Expr)) {K : List (Key × Da) → Nat → Prop} {m : Nat} {G0 H0 G H : Hp} {σ : L2.St} {W : WX} {p : Addr} {Q : List (V × V) → Hp → Prop}, Ok M G0 H0 G H m → SOk X.K M H0 G H σ sl → Wis M X KE G H σ W → H p = some (.dK []) → G p = none → ¬ M.X H p → DispD M X KE sl prs K m →
    (∀ rest kvs m' G' H', K rest m' → Ok M G H G' H' m' → RepK X.K G' kvs rest → H' p = some (.dK []) → G' p = none → ¬ M.X H' p → kvs.length = prs.length → Q (kvs.map fun kv => (kV kv.1, kv.2)) H') → tPairs (prs.map fun e => (wpE X e.1, wpE X e.2)) σ H Q
  | [], K, m, G0, H0, G, H, σ, W, p, Q, ok, so, wi, hp, gp, nx, h, k => k [] [] m G H h ok.here .nil hp gp nx rfl
  | e :: r, K, m, G0, H0, G, H, σ, W, p, Q, ok, so, wi, hp, gp, nx, h, k => by
    refine h G0 H0 G H σ W _ ok so wi fun y dy m1 G1 H1 ⟨kk, ek, h1⟩ o1 r1 => ?_
    subst ek
    refine h1 G0 H0 G1 H1 σ W _ (ok.trans o1) (so.step o1) (wi.step o1) fun z dz m2 G2 H2 h2 o2 r2 => ?_
    obtain ⟨a1, a2⟩ := o1.keep p _ hp nx
    have a3 := o1.new p _ hp nx gp
    obtain ⟨b1, b2⟩ := o2.keep p _ a1 a2
    have b3 := o2.new p _ a1 a2 a3
    refine disp_run r ((ok.trans o1).trans o2) ((so.step o1).step o2) ((wi.step o1).step o2) b1 b3 b2 h2 fun rest kvs m' G' H' q o rk c1 c2 c3 c4 => ?_
    have := k ((kk, dz) :: rest) ((kk, z) :: kvs) m' G' H' q ((o1.trans o2).trans o) (.cons (r2.mono o.le) rk) c1 c2 c3 (by simp [c4])
    rw [List.map_cons, ← rep_key r1] at this
    exact this
def putsD (acc : List (Key × Da)) (ks : List (Key × Da)) : List (Key × Da) := ks.foldl (fun acc kv => putD acc kv.1 kv.2) acc
theorem repK_puts {K : PySem.W.Frag} {G : Hp} : ∀ {kvs more : List (Key × V)} {ks ls : List (Key × Da)}, RepK K G kvs ks → RepK K G more ls → RepK K G (mergeK kvs more) (putsD ks ls)
  | _, _, _, _, a, .nil => a
  | _, _, _, _, a, .cons b r => by
    show RepK K G (mergeK (putK _ _ _) _) (putsD (putD _ _ _) _)
    exact repK_puts (repK_put a b) r
theorem pps_wp {pos : Pos} : ∀ prs : List (Expr × Expr), PPs X pos (prs.map fun e => some e.1) (prs.map (·.2)) (prs.map fun e => (wpE X e.1, wpE X e.2))
  | [] => pps_nil
  | _ :: r => pps_cons pe_wp pe_wp (pps_wp r)
/-- {k: v, ..} -/
theorem evn_disp {m : Nat} (prs : List (Expr × Expr)) {keys : List (Option Expr)} {values : List Expr} (hk : keys = prs.map fun e => some e.1) (hv : values = prs.map (·.2)) (h0 : prs ≠ []) (h15 : prs.length ≤ 15)
    (h : DispD M X KE sl prs (fun ks m1 => P (.dct (putsD [] ks)) m1) m) : EvN M X KE (.Dict keys values pos) sl P m := by
  subst hk hv
  intro G0 H0 G H σ W Q ok so wi po
  refine wpE.of (pe_disp (pps_wp prs) (by simp) (by simp) (by simpa using h0) (by simpa using h15)) fun p hp => ?_
  have ok1 := ok.here.allocM (o := .dK []) hp
  have gp : G p = none := by
    cases e : G p with
    | none => rfl
    | some u => rw [ok.sub _ _ e] at hp; cases hp
  have nx0 : ¬ M.X H p := fun z => by obtain ⟨u, e⟩ := M.there _ _ _ ok.inv z; rw [hp] at e; cases e
  have nx : ¬ M.X (L2.upd H p (.dK [])) p := fun z => nx0 (X_keep ok nx0 _ z)
  refine disp_run prs (ok.trans ok1) (so.step ok1) (wi.step ok1) upd_same gp nx h fun rest kvs m' G' H' q o rk c1 c2 c3 c4 => ?_
  refine ⟨c1, kvs, rfl, by rw [c4]; exact h15, ?_⟩
  have nm : ∀ b, M.X (L2.upd H' p (.dK (mergeK [] kvs))) b → M.X H' b := (M.clo m' H' _ o.inv fun b u x e => by rw [upd_ne (fun q => c3 (by rw [← q]; exact x))]; exact e).2
  have h0' : H p = none ∨ M.X H p := .inl hp
  have om : Ok M G H G' (L2.upd H' p (.dK (mergeK [] kvs))) m' := (ok1.trans o).mut c2 c3 h0'
  exact po p _ m' G' _ q om ⟨c2, .inl hp, fun z => c3 (nm _ z), ⟨_, upd_same, repK_puts .nil rk⟩⟩
end
/-- name = [..], a list of the run's own -/
theorem st1_setLcM {M : Mode} {X : Cx} {KE : Ks} {D : Kn} {tg iter elt : Expr} {ifs : List Expr} {scope : Scope} {sl sw : List Sl} {m j : Nat} {pos : Pos} {N : List Str} {sc : Scope} {B : Bd} {own : List (Str × Nat)} {y : Str} {py spos : Pos} (cx : Ctx X N sc B) (hr : Room j X.A) (ot : OwnT N tg own) (wp : WipeS N own sl sw)
    (h : IterD M X (KE sl) tg iter sl (fun ds m1 => ds.length < sizeLine ∧ CompD (lcStep M X scope N sc B j (own.map (·.2)) tg ifs elt sw) ds (fun r m2 => ∃ i sl', EnvSet N sl y i (.m (.lst r)) sl' ∧ D.nx sl' m2) m1) m)
    (hsw : swapsWith (.ListComp elt [⟨tg, iter, ifs, 0⟩] scope pos) (some (.Name y py)) spos.line X.env = pure true := by with_unfolding_all exact sw_true rfl rfl rfl (by decide +kernel)) (hN : ∃ i : Nat, N[i]? = some y) (hyl : sc.names.lookup y = some .local := by with_unfolding_all rfl)
    (hb : blkC N sc scope own = true := by with_unfolding_all decide +kernel) (hc : X.calm = true := by with_unfolding_all rfl) (hs : ∀ x, foldedSetIterable iter X.env x = pure x := by with_unfolding_all (intro _; rfl)) : St1 M X KE (.Assign [.Name y py] (.ListComp elt [⟨tg, iter, ifs, 0⟩] scope pos) spos) sl D m := by
  intro G0 H0 G H σ W E ok so wi po
  obtain ⟨i, hi⟩ := hN
  refine wpS.of (ps_setLc (own := own) (i := i) (wi := wpI X tg iter) (g := gBlk X scope tg) (tt := tBlk X scope ifs) (te := eBlk X scope elt) hc cx.nd (by rw [cx.n]; exact hi) (by rw [cx.s]; exact hyl) hsw pi_wp ?_ ?_ ?_ ?_ hs) ?_
  · rw [cx.n, cx.s]; exact blkOk_by hb
  · exact fun s Hb C cl fp => ⟨fun pins s' σ H v u Q I r q => q s Hb C cl fp pins s' u I r⟩
  · intro s Hb C cl fp
    match ifs with
    | [] => exact pts_nil
    | [c] => exact pts_one ⟨fun pins s' σ H Q I q => q s Hb C cl fp pins s' I⟩
    | _ :: _ :: _ => exact ⟨fun pins s' σ H Q I q => q.elim⟩
  · exact fun s Hb C cl fp => ⟨fun pins s' σ H Q I q => q s Hb C cl fp pins s' I⟩
  · refine h G0 H0 G H σ W _ ok so (wi.at ok so) fun J ds m1 G1 H1 q o1 wk => fun D2 hD => ?_
    refine lc_run (P := fun d m2 => ∃ i sl', EnvSet N sl y i (.m d) sl' ∧ D.nx sl' m2) cx hr hc wp ok so o1 wk q.1 q.2 (Q := fun v H' => gName i v σ H' E.nx) D2 hD fun out m' G1 H' p k g h0 nx r => ?_
    have n : New X.K M H G1 H' D2 (.lst out) := ⟨g, h0, nx, r⟩
    obtain ⟨i', sl', es, p⟩ := p
    have hii : i' = i := nd_ix (cx.n ▸ cx.nd) es.name hi
    subst hii
    refine po.nx _ sl' m' _ H' p (ok.trans k) ?_
    rw [es.set]
    exact (so.step k).newM i' (n.back ok) (held_ne (G0 := G0) so n.h0)
/-! a class that makes objects, within any mode -/
def FPI (F : FI) : FI := fun ds KR KE m => F ds (fun fs _ => KR fs m) (fun C fs _ => KE C fs m) 0
theorem spI_pure {M : Mode} {K : PySem.W.Frag} {C : Addr} {n : Nat} {F : FI} {vs : List V} {H : Hp} {Q : VK} {E : XK} (h : spI M K C n (FPI F) vs H Q E) : spI pureM K C n F vs H Q E := by
  obtain ⟨hl, x, dx, rest, H0, G, m, ds, KR, KE, ge, hx, hdx, ne, rfl, ok, r, hF, po, px⟩ := h
  refine ⟨hl, x, dx, rest, H0, G, 0, ds, _, _, ge, hx, hdx, ne, rfl, ok.toPure, r, hF, fun fs m' G' H' p o nw => po fs m G' H' p (ok.lift o) ⟨nw.g, .inl hx, fun z => ?_, nw.r⟩, fun C fs d m' G' H' p o x => px C fs d m G' H' p (ok.lift o) x⟩
  have c2 := (M.clo m H0 H' ok.inv fun b u _ e => (o.keep b u e fun h => h).1).2
  obtain ⟨u, e⟩ := M.there _ _ _ ok.inv (c2 _ z)
  rw [hx] at e
  cases e
theorem MakeG.lift {M : Mode} {B : Bd} {k n : Nat} {C : Addr} {ks : List Str} {gD : List Da → List Da → List Da} {F : FI} (c : MakeG pureM B k C n ks gD F) : MakeG M B k C n ks gD (FPI F) := by
  obtain ⟨f, CX, fd, ps, g, gV, r, Mk', Fo, hb, hrep, hc⟩ := c.ex
  exact ⟨f, CX, fd, ps, g, gV, r, Mk', Fo.imp fun _ _ _ _ q => spI_pure q, hb, hrep, hc⟩
theorem fp {F : FD} {ds : List Da} {P : Da → Nat → Prop} {KE : Kx} {m : Nat} (h : F ds (fun d _ => P d m) (fun C fs _ => KE C fs m) 0) : FP F ds P KE m := h
theorem fpi {F : FI} {ds : List Da} {P : List (Str × Da) → Nat → Prop} {KE : Kx} {m : Nat} (h : F ds (fun d _ => P d m) (fun C fs _ => KE C fs m) 0) : FPI F ds P KE m := h
/-! lists of flat things are plain -/
theorem plDs_map {α : Type} (f : α → Da) (h : ∀ a, plD (f a) = true) : ∀ xs : List α, plDs (xs.map f) = true
  | [] => rfl
  | a :: r => by simp only [List.map_cons, plDs, h a, plDs_map f h r, Bool.and_self]
theorem dpts_le {α : Type} (f : α → Da) (n : Nat) (h : ∀ a, dpt (f a) ≤ n) : ∀ xs : List α, dpts (xs.map f) ≤ n
  | [] => Nat.zero_le _
  | a :: r => by simp only [List.map_cons, dpts]; exact Nat.max_le.mpr ⟨h a, dpts_le f n h r⟩
/-- == of lists, item by item -/
theorem deqs_map {α β : Type} [DecidableEq β] (f : α → Da) (g : α → β) (h : ∀ a b, deq (f a) (f b) = decide (g a = g b)) : ∀ xs ys : List α, deqs (xs.map f) (ys.map f) = decide (xs.map g = ys.map g)
  | [], [] => by simp [deqs]
  | [], _ :: _ => by simp [deqs]
  | _ :: _, [] => by simp [deqs]
  | a :: r, b :: t => by
    simp only [List.map_cons, deqs, h a b, deqs_map f g h r t]
    rw [Bool.eq_iff_iff]
    simp
theorem deqs_mapI {α : Type} [DecidableEq α] (f : α → Da) (h : ∀ a b, deq (f a) (f b) = decide (a = b)) (xs ys : List α) : deqs (xs.map f) (ys.map f) = decide (xs = ys) := by
  rw [deqs_map f id h, List.map_id, List.map_id]
theorem deqs_len : ∀ {xs ys : List Da}, deqs xs ys = true → xs.length = ys.length
  | [], [], _ => rfl
  | [], _ :: _, h => by cases h
  | _ :: _, [], h => by cases h
  | a :: r, b :: t, h => by
    simp only [deqs, Bool.and_eq_true] at h
    simp [deqs_len h.2]
end OZ
namespace OZ
open PySem L2 PySem.Spec PyProof.Rows
section
variable {M : Mode} {X : Cx} {KE : Kx} {a b c d : Expr} {sl : List Sl} {P : Da → Nat → Prop} {m : Nat} {pos : Pos}
theorem evn_disp1 (h : EvD M X KE a sl (fun y m1 => ∃ k, y = keyD k ∧ EvD M X KE b sl (fun z m2 => P (.dct [(k, z)]) m2) m1) m) : EvN M X KE (.Dict [some a] [b] pos) sl P m :=
  evn_disp [(a, b)] rfl rfl (by simp) (by simp) h
theorem evn_disp2 (h : EvD M X KE a sl (fun y m1 => ∃ k, y = keyD k ∧ EvD M X KE b sl (fun z m2 => EvD M X KE c sl (fun y2 m3 => ∃ k2, y2 = keyD k2 ∧ EvD M X KE d sl (fun z2 m4 => P (.dct (putsD [] [(k, z), (k2, z2)])) m4) m3) m2) m1) m) : EvN M X KE (.Dict [some a, some c] [b, d] pos) sl P m :=
  evn_disp [(a, b), (c, d)] rfl rfl (by simp) (by simp) h
theorem dpt_le {ds : List Da} (h : dpts ds ≤ 60) : dpt (.lst ds) ≤ 64 := by show dpts ds + 1 ≤ 64; omega
theorem dpt_leT {ds : List Da} (h : dpts ds ≤ 60) : dpt (.tup ds) ≤ 64 := by show dpts ds + 1 ≤ 64; omega
end
end OZ
/-! ### attributes and methods, by what the object turns out to be -/
namespace OZ
open PySem L2 PySem.Spec PyProof.Rows
/-- o.f, for what o is -/
inductive AttrD (M : Mode) (B : Bd) (j : Nat) (f : Str) (P : Da → Nat → Prop) (m : Nat) : Da → Prop
  | prop {C : Addr} {fs : List (Str × Da)} {k : Nat} {F : FD} (c : PropG M B k C f F) (hk : k + 1 ≤ j) (h : F [.obj C fs] P K0 m) : AttrD M B j f P m (.obj C fs)
  | fld {C : Addr} {fs : List (Str × Da)} {v : Da} (cl : Cls B.K C) (na : NoAttr B.K C f) (l : fs.lookup f = some v) (h : P v m) : AttrD M B j f P m (.obj C fs)
  | con {C : Addr} {fs : List (Str × Da)} {d : Da} (c : ConG B.K C f d) (cl : Cls B.K C) (l : fs.lookup f = none) (h : P d m) : AttrD M B j f P m (.obj C fs)
  | cls {C : Addr} {d : Da} (c : ConG B.K C f d) (h : P d m) : AttrD M B j f P m (.ref C)
theorem AttrD.propP {M : Mode} {B : Bd} {j : Nat} {f : Str} {P : Da → Nat → Prop} {m : Nat} {C : Addr} {fs : List (Str × Da)} {k : Nat} {F : FD} (c : PropG pureM B k C f F) (hk : k + 1 ≤ j) (h : F [.obj C fs] (fun d _ => P d m) (fun _ _ _ => False) 0) : AttrD M B j f P m (.obj C fs) :=
  .prop c.lift hk h
section
variable {M : Mode} {X : Cx} {KE : Kx} {e o : Expr} {es : List Expr} {kws : List Keyword} {sl : List Sl} {P : Da → Nat → Prop} {m j : Nat} {pos apos : Pos} {f mt : Str} {ks : List Str} {N : List Str} {sc : Scope} {B : Bd}
theorem evd_attr (cx : Ctx X N sc B) (hr : Room j X.A) (h : EvD M X KE e sl (fun x m1 => AttrD M B j f P m1 x) m) (hb : attributeBase e f X.env (eval e X.env) = eval e X.env := by with_unfolding_all rfl) : EvD M X KE (.Attribute e f pos) sl P m := by
  have eb := cx.b
  subst eb
  intro G0 H0 G H σ W Q ok so wi po pins s I
  refine attr_of hb (h.run ok so wi I fun u s1 v x m1 G1 H1 p1 k1 o1 so1 wi1 r1 I1 rv1 => ?_)
  cases p1 with
  | prop c hk q =>
    obtain ⟨p, g, fd, ps, cl, po', Fo, bn⟩ := c.ex
    have r0 := r1
    obtain ⟨ad, dx, vs, rfl, ea, rf⟩ := r1.obj_inv
    obtain rfl : u = Value.ref ad := rv1
    exact getprop_ok (E := fun _ _ _ => False) I1 (k1.sub _ _ ea) cl po' Fo (hr.mono hk) bn .nil pass0 ⟨rfl, G1, m1, _, P, K0, k1.here, .cons r0 .nil, q, po.step o1, fun _ _ _ _ _ _ z => z.elim⟩
  | fld cl na l q =>
    obtain ⟨ad, dx, vs, rfl, ea, rf⟩ := r1.obj_inv
    obtain rfl : u = Value.ref ad := rv1
    obtain ⟨w, hw, rw'⟩ := rf.look l
    exact getattr_ok I1 (k1.sub _ _ ea) cl na hw fun u' s2 I2 ru => ⟨w, H1, I2, ru, po w _ m1 G1 H1 q o1 rw'⟩
  | con c cl l q =>
    obtain ⟨w, uc, cn, rp, mc, cr, cv⟩ := c.ex
    obtain ⟨ad, dx, vs, rfl, ea, rf⟩ := r1.obj_inv
    obtain rfl : u = Value.ref ad := rv1
    exact getcon_ok I1 (k1.sub _ _ ea) cl cn (rf.lookN l) fun s2 I2 => ⟨w, H1, I2, cn.rel, po w _ m1 G1 H1 q o1 (rp G1)⟩
  | cls c q =>
    obtain ⟨w, uc, cn, rp, mc, cr, cv⟩ := c.ex
    cases r1
    obtain rfl : u = Value.ref _ := rv1
    exact ClX.getcval_ok I1 cr cv fun s2 I2 => ⟨w, H1, I2, cn.rel, po w _ m1 G1 H1 q o1 (rp G1)⟩
/-- o.mt(e, .., k = v, ..), for what o is -/
inductive MethD (M : Mode) (X : Cx) (KE : Kx) (B : Bd) (j : Nat) (mt : Str) (ks : List Str) (A : (List Da → List Da → Nat → Prop) → Nat → Prop) (P : Da → Nat → Prop) (m : Nat) : Da → Prop
  | mk {C : Addr} {fs : List (Str × Da)} {k n : Nat} {gD : List Da → List Da → List Da} {F : FD} (c : MethG M B k C mt n ks gD F) (hk : k ≤ j) (l : fs.lookup mt = none) (h : A (fun ds zs m2 => ds.length = n ∧ zs.length = ks.length ∧ F (gD (.obj C fs :: ds) zs) P KE m2) m) : MethD M X KE B j mt ks A P m (.obj C fs)
theorem MethD.pure {A : (List Da → List Da → Nat → Prop) → Nat → Prop} {C : Addr} {fs : List (Str × Da)} {k n : Nat} {gD : List Da → List Da → List Da} {F : FD} (c : MethG pureM B k C mt n ks gD F) (hk : k ≤ j) (l : fs.lookup mt = none) (h : A (fun ds zs m2 => ds.length = n ∧ zs.length = ks.length ∧ F (gD (.obj C fs :: ds) zs) (fun d _ => P d m2) (fun C fs _ => KE C fs m2) 0) m) : MethD M X KE B j mt ks A P m (.obj C fs) :=
  .mk c.lift hk l h
theorem evd_methX {pl : Sem Bool} (cx : Ctx X N sc B) (hr : Room j X.A) (h : EvD M X KE o sl (fun d m0 => MethD M X KE B j mt ks (fun K m => EvA M X KE (e :: es) sl (fun ds m1 => EvK M X KE kws sl (fun zs m2 => K ds zs m2) m1) m) P m0 d) m)
    (hall : (backToKw pos (keywordEach kws X.env)).all (·.1.isSome) = true := by with_unfolding_all rfl) (hks : (backToKw pos (keywordEach kws X.env)).filterMap (·.1) = ks := by with_unfolding_all rfl)
    (he : starEach (e :: es) X.env = (false, eval e X.env) :: starEach es X.env := by with_unfolding_all rfl) (hpl : ((backTo pos (starEach (e :: es) X.env)).any (·.1) || (backToKw pos (keywordEach kws X.env)).any (·.1.isNone)) = false := by with_unfolding_all rfl)
    (ht : eval (.Call (.Attribute o mt apos) (e :: es) kws pos) X.env = (do
      let ov ← eval o X.env
      standAt apos.atName
      let (f, first) ← holding [ov] (getMethod ov mt pl)
      callWith pos f first (backTo pos (starEach (e :: es) X.env)) (backToKw pos (keywordEach kws X.env))) := by with_unfolding_all rfl) : EvD M X KE (.Call (.Attribute o mt apos) (e :: es) kws pos) sl P m := by
  have eb := cx.b
  subst eb
  intro G0 H0 G H σ W Q ok so wi po pins s I
  refine PySem.W.methodCall_KW (pl := pl) (h.run ok so wi I fun u s1 v d m1 G1 H1 p1 k1 o1 so1 wi1 r1 I1 rv1 => ?_) ht
  cases p1 with
  | mk c hk l p1 =>
    obtain ⟨g, cl, me, fk⟩ := c.ex
    have r0 := r1
    obtain ⟨ad, dx, vs0, rfl, ea, rf⟩ := r1.obj_inv
    cases rv1
    refine getmeth_ok I1 (k1.sub _ _ ea) cl me (rf.lookN l) ?_
    refine PySem.W.callWith_KW (first := [.ref ad]) (h₀ := X.base) I.ok.mod.kin me.kp hall (p1.run k1 so1 wi1 I1 (fun us s2 vs ds m2 G2 H2 p2 k2 o2 so2 wi2 r2 I2 rv2 => ?_) pos) hpl he
    refine p2.run k2 so2 wi2 I2 (fun ws s3 zs es' m3 G3 H3 p3 k3 o3 so3 wi3 r3 I3 rv3 => ?_) pos
    rw [hks]
    refine ⟨I3.kIn, ?_⟩
    exact (fk.code hr (by simp [p3.1]) p3.2.1 p3.2.2 hk).k G3 H3 σ W Q (.ref ad :: vs) zs k3.here wi3 (.cons ((r0.mono o2.le).mono o3.le) (r2.mono o3.le)) r3 (po.step ((o1.trans o2).trans o3)) pins s3 (.ref ad :: us) ws I3 (.cons rfl rv2) rv3
theorem evd_meth0X {pl : Sem Bool} (cx : Ctx X N sc B) (hr : Room j X.A) (h : EvD M X KE o sl (fun d m0 => MethD M X KE B j mt ks (fun K m => EvK M X KE kws sl (fun zs m2 => K [] zs m2) m) P m0 d) m)
    (hall : (backToKw pos (keywordEach kws X.env)).all (·.1.isSome) = true := by with_unfolding_all rfl) (hks : (backToKw pos (keywordEach kws X.env)).filterMap (·.1) = ks := by with_unfolding_all rfl)
    (hpl : ((backTo pos (starEach [] X.env)).any (·.1) || (backToKw pos (keywordEach kws X.env)).any (·.1.isNone)) = false := by with_unfolding_all rfl)
    (ht : eval (.Call (.Attribute o mt apos) [] kws pos) X.env = (do
      let ov ← eval o X.env
      standAt apos.atName
      let (f, first) ← holding [ov] (getMethod ov mt pl)
      callWith pos f first (backTo pos (starEach [] X.env)) (backToKw pos (keywordEach kws X.env))) := by with_unfolding_all rfl) : EvD M X KE (.Call (.Attribute o mt apos) [] kws pos) sl P m := by
  have eb := cx.b
  subst eb
  intro G0 H0 G H σ W Q ok so wi po pins s I
  refine PySem.W.methodCall_KW (pl := pl) (h.run ok so wi I fun u s1 v d m1 G1 H1 p1 k1 o1 so1 wi1 r1 I1 rv1 => ?_) ht
  cases p1 with
  | mk c hk l p1 =>
    obtain ⟨g, cl, me, fk⟩ := c.ex
    have r0 := r1
    obtain ⟨ad, dx, vs0, rfl, ea, rf⟩ := r1.obj_inv
    cases rv1
    refine getmeth_ok I1 (k1.sub _ _ ea) cl me (rf.lookN l) ?_
    refine PySem.W.callWith_KW0 (first := [.ref ad]) (h₀ := X.base) I.ok.mod.kin me.kp hall ?_ hpl
    refine p1.run k1 so1 wi1 I1 (fun ws s3 zs es' m3 G3 H3 p3 k3 o3 so3 wi3 r3 I3 rv3 => ?_) pos
    rw [hks]
    refine ⟨I3.kIn, ?_⟩
    exact (fk.code hr (by simp [← p3.1]) p3.2.1 p3.2.2 hk).k G3 H3 σ W Q [.ref ad] zs k3.here wi3 (.cons (r0.mono o3.le) .nil) r3 (po.step (o1.trans o3)) pins s3 [.ref ad] ws I3 (.cons rfl .nil) rv3
end
end OZ
namespace OZ
open PySem L2 PySem.Spec PyProof.Rows
section
variable {M : Mode} {B : Bd} {CX : CXT} {k n r : Nat} {C f : Addr} {fd : FuncData} {ps ks : List Str} {F : FI} {us0 : List Value} {vs0 : List V} {ds0 : List Da}
theorem MakeG.plain (mk : Mk B.K C f) (Fo : FnOk B.P B.w B.K B.mg B.base CX k f fd ps (spI M B.K C n F)) (hc : CX = CX0 ∨ CX = L2.CX B.P B.w) (hb : Binds B.K fd ps []) (hn : n + 1 = ps.length) : MakeG M B k C n [] (fun ds _ => ds) F :=
  ⟨f, CX, fd, ps, fun us _ => us, fun vs _ => vs, n, mk, Fo, ⟨fun s us ws Kin l1 _ => by
    have := hb s us Kin (by rw [List.append_nil]; exact l1.trans hn)
    rw [List.append_nil] at this
    exact this, fun a _ => a⟩, fun G x vs zs ds es r1 _ h1 _ => ⟨vs, rfl, r1, h1⟩, hc⟩
theorem MakeG.dflt (mk : Mk B.K C f) (Fo : FnOk B.P B.w B.K B.mg B.base CX k f fd ps (spI M B.K C r F)) (hc : CX = CX0 ∨ CX = L2.CX B.P B.w) (hb : Binds B.K fd ps us0) (hv : Vals vs0 us0) (hr : ∀ G, Reps B.K G vs0 ds0) (hn : n + 1 + ds0.length = ps.length) (hl : r = n + ds0.length) : MakeG M B k C n [] (fun ds _ => ds ++ ds0) F := by
  have l0 : us0.length = ds0.length := by rw [← hv.length, (hr (fun _ => none)).length]
  exact ⟨f, CX, fd, ps, fun us _ => us ++ us0, fun vs _ => vs ++ vs0, r, mk, Fo, ⟨fun s us ws Kin l1 l2 => hb s us Kin (by rw [List.length_append, l1, l0]; exact hn), fun a _ => a.append hv⟩,
    fun G x vs zs ds es r1 _ h1 _ => ⟨vs ++ vs0, rfl, r1.append (hr G), by rw [List.length_append, h1, hl]⟩, hc⟩
theorem MakeG.kw {g : List Value → List Value → List Value} (mk : Mk B.K C f) (Fo : FnOk B.P B.w B.K B.mg B.base CX k f fd ps (spI M B.K C r F)) (hc : CX = CX0 ∨ CX = L2.CX B.P B.w) (hb : KBn B.K fd ps (n + 1) ks g (fun us ws => us ++ ws)) (hl : r = n + ks.length) : MakeG M B k C n ks (fun ds es => ds ++ es) F :=
  ⟨f, CX, fd, ps, g, _, r, mk, Fo, hb, fun G x vs zs ds es r1 r2 h1 h2 => ⟨vs ++ zs, rfl, r1.append r2, by rw [List.length_append, h1, h2, hl]⟩, hc⟩
end
end OZ
namespace OZ
open PySem L2
theorem kit_selfV {K : PySem.W.Frag} (t : Value) : KitG K t t true := ⟨by unfold PySem.W.kitOne; rw [if_pos (by simp)]⟩
end OZ
namespace OS
open PySem L2 PySem.Spec PyProof.Rows
theorem kw_plain {K : PySem.W.Frag} {x qual : Str} {st : Stmt} {f : Addr} {fd : FuncData} {ps ks : List Str} {n : Nat} {g : List Value → List Value → List Value} {gV : List V → List V → List V} (F : Fun K x qual st f fd)
    (h : ∀ (kV doc pm : Value) (an : Option Addr) (cdv ct : Value) (us ws : List Value), us.length = n → ws.length = ks.length → bindArgs (PySem.W.fnOf x qual (defArgs st) (defBody st) (defScope st) .none kV doc pm an cdv ct) ⟨us, ks.zip ws⟩ = pure (ps.zip (g us ws)))
    (hrel : ∀ {vs : List V} {us : List Value} {zs : List V} {ws : List Value}, Vals vs us → Vals zs ws → Vals (gV vs zs) (g us ws)) : KBn K fd ps n ks g gV := by
  obtain ⟨oc, od, kV, doc, pm, an, cdv, ct, osl, rfl, lk, hcd⟩ := F.ex
  exact ⟨fun s us ws _ l1 l2 => .of_eq (h kV doc pm an cdv ct us ws l1 l2), hrel⟩
end OS
namespace OZ
open PySem L2 PySem.Spec PyProof.Rows
/-- o.mt(e, ..), for what o is: a method, or a field that holds an object that is called -/
inductive MethN (M : Mode) (X : Cx) (KE : Kx) (B : Bd) (j : Nat) (mt : Str) (A : (List Da → Nat → Prop) → Nat → Prop) (P : Da → Nat → Prop) (m : Nat) : Da → Prop
  | mk {C : Addr} {fs : List (Str × Da)} {k n : Nat} {gD : List Da → List Da → List Da} {F : FD} (c : MethG M B k C mt n [] gD F) (hk : k ≤ j) (l : fs.lookup mt = none) (h : A (fun ds m2 => ds.length = n ∧ F (gD (.obj C fs :: ds) []) P KE m2) m) : MethN M X KE B j mt A P m (.obj C fs)
  | fld {C D : Addr} {fs gs : List (Str × Da)} {k n : Nat} {F : FD} (cl : Cls B.K C) (na : NoAttr B.K C mt) (l : fs.lookup mt = some (.obj D gs)) (c : InstG M B k D n F) (hk : k ≤ j) (h : A (fun ds m2 => ds.length = n ∧ F (.obj D gs :: ds) P KE m2) m) : MethN M X KE B j mt A P m (.obj C fs)
section
variable {M : Mode} {X : Cx} {KE : Kx} {e o : Expr} {es : List Expr} {sl : List Sl} {P : Da → Nat → Prop} {m j : Nat} {pos apos : Pos} {mt : Str} {N : List Str} {sc : Scope} {B : Bd}
theorem MethN.pure {A : (List Da → Nat → Prop) → Nat → Prop} {C : Addr} {fs : List (Str × Da)} {k n : Nat} {gD : List Da → List Da → List Da} {F : FD} (c : MethG pureM B k C mt n [] gD F) (hk : k ≤ j) (l : fs.lookup mt = none) (h : A (fun ds m2 => ds.length = n ∧ F (gD (.obj C fs :: ds) []) (fun d _ => P d m2) (fun C fs _ => KE C fs m2) 0) m) : MethN M X KE B j mt A P m (.obj C fs) :=
  .mk c.lift hk l h
theorem MethN.fldP {A : (List Da → Nat → Prop) → Nat → Prop} {C D : Addr} {fs gs : List (Str × Da)} {k n : Nat} {F : FD} (cl : Cls B.K C) (na : NoAttr B.K C mt) (l : fs.lookup mt = some (.obj D gs)) (c : InstG pureM B k D n F) (hk : k ≤ j) (h : A (fun ds m2 => ds.length = n ∧ F (.obj D gs :: ds) (fun d _ => P d m2) (fun C fs _ => KE C fs m2) 0) m) : MethN M X KE B j mt A P m (.obj C fs) :=
  .fld cl na l c.lift hk h
theorem evd_methN {pl : Sem Bool} (cx : Ctx X N sc B) (hr : Room j X.A) (h : EvD M X KE o sl (fun d m0 => MethN M X KE B j mt (fun K m => EvA M X KE (e :: es) sl K m) P m0 d) m)
    (he : starEach (e :: es) X.env = (false, eval e X.env) :: starEach es X.env := by with_unfolding_all rfl) (hpl : (backTo pos (starEach es X.env)).any (·.1) = false := by with_unfolding_all rfl)
    (hp2 : ((backTo pos (starEach (e :: es) X.env)).any (·.1) || (backToKw pos (keywordEach [] X.env)).any (·.1.isNone)) = false := by with_unfolding_all rfl)
    (ht : eval (.Call (.Attribute o mt apos) (e :: es) [] pos) X.env = (do
      let ov ← eval o X.env
      standAt apos.atName
      let (f, first) ← holding [ov] (getMethod ov mt pl)
      callWith pos f first (backTo pos (starEach (e :: es) X.env)) (backToKw pos (keywordEach [] X.env))) := by with_unfolding_all rfl) : EvD M X KE (.Call (.Attribute o mt apos) (e :: es) [] pos) sl P m := by
  have eb := cx.b
  subst eb
  intro G0 H0 G H σ W Q ok so wi po pins s I
  refine PySem.W.methodCall_KW (pl := pl) (h.run ok so wi I fun u s1 v d m1 G1 H1 p1 k1 o1 so1 wi1 r1 I1 rv1 => ?_) ht
  cases p1 with
  | @mk C fs k n gD F c hk l p1 =>
    obtain ⟨g, cl, me, fk⟩ := c.ex
    have r0 := r1
    obtain ⟨ad, dx, vs0, rfl, ea, rf⟩ := r1.obj_inv
    cases rv1
    refine getmeth_ok I1 (k1.sub _ _ ea) cl me (rf.lookN l) ?_
    refine PySem.W.callWith_KW (first := [.ref ad]) (h₀ := X.base) I.ok.mod.kin me.kp (by rfl) (p1.run k1 so1 wi1 I1 (fun us s2 vs ds m2 G2 H2 p2 k2 o2 so2 wi2 r2 I2 rv2 => ?_) pos) hp2 he
    refine (show EvK M X KE [] sl (fun zs m2 => zs = [] ∧ F (gD (.obj C fs :: ds) []) P KE m2) m2 from evk_nil ⟨rfl, p2.2⟩).run k2 so2 wi2 I2 (fun ws s3 zs es' m3 G3 H3 p3 k3 o3 so3 wi3 r3 I3 rv3 => ?_) pos
    obtain ⟨rfl, p3⟩ := p3
    refine ⟨I3.kIn, ?_⟩
    exact (fk.code hr (by simp [p2.1]) rfl p3 hk).k G3 H3 σ W Q (.ref ad :: vs) zs k3.here wi3 (.cons ((r0.mono o2.le).mono o3.le) (r2.mono o3.le)) r3 (po.step ((o1.trans o2).trans o3)) pins s3 (.ref ad :: us) ws I3 (.cons rfl rv2) rv3
  | fld cl na l c hk p1 =>
    obtain ⟨g, co, fk⟩ := c.ex
    obtain ⟨ad, dx, vs0, rfl, ea, rf⟩ := r1.obj_inv
    cases rv1
    obtain ⟨w, hw, rw'⟩ := rf.look l
    refine getmeth_fld I1 (k1.sub _ _ ea) cl na hw fun u s1' I1' ru => ?_
    have r0 := rw'
    obtain ⟨ad2, dx2, vs2, rfl, ea2, rf2⟩ := rw'.obj_inv
    cases ru
    refine StX.callO_with (p1.run k1 so1 wi1 I1' (fun us s2 vs ds m2 G2 H2 p2 k2 o2 so2 wi2 r2 I2 rv2 => ?_) pos) he hpl
    obtain ⟨ox, od, J, hd⟩ := StX.insC_at (C := _) I2 (.inr ⟨dx2, vs2, k2.sub _ _ (o2.le _ _ ea2)⟩)
    refine ⟨⟨_, ox, od, J, hd⟩, wpAny_call (PySem.W.kco_code I2.kIn J hd co.at_ co.fn co.fi ?_)⟩
    exact (fk.code (ks := []) (es := []) hr (by simp [p2.1]) rfl p2.2 hk) G2 H2 σ W Q (.ref ad2 :: vs) [] k2.here wi2 (.cons (r0.mono o2.le) r2) .nil (po.step (o1.trans o2)) pins s2 (.ref ad2 :: us) [] I2 (.cons rfl rv2) .nil
end
end OZ
namespace OZ
open PySem L2 PySem.Spec PyProof.Rows
/-- x.f, x an own object: a class value -/
theorem evd_attrB {M : Mode} {X : Cx} {KE : Kx} {sl sl2 : List Sl} {P : Da → Nat → Prop} {m i i' : Nat} {q : Option Addr} {C : Addr} {fs : List (Str × Da)} {x f : Str} {p pos : Pos} {N : List Str} {sc : Scope} {B : Bd} (cx : Ctx X N sc B) (hx : EnvAt N sl x i (.mm q (.obj C fs))) (es : EnvSet N sl x i' (.v (.obj C fs)) sl2)
    (h : EvD M X (fun C fs m => flF fs = true ∧ KE C fs m) (.Attribute (.Name x p) f pos) sl2 (fun z m' => flD z = true ∧ P z m') m) : EvD M X KE (.Attribute (.Name x p) f pos) sl P m :=
  evd_bor hx.slot rfl (envset_mm cx hx es ▸ h)
end OZ

namespace ZM
open PySem PySem.Spec PyProof.Rows L2
/-- the two sorts of rows -/
inductive Kd | l | t
def Kd.it : Kd → Heap → Addr → Addr → Nat → Prop
  | .l, h, i, a, k => h.IsListIter i a k
  | .t, h, i, a, k => h.IsTupleIter i a k
def Kd.sq : Kd → Heap → Addr → Array Value → Prop
  | .l, h, a, xs => h.IsList a xs
  | .t, h, a, xs => h.IsTuple a xs
def Kd.nm : Kd → String
  | .l => "list_iterator"
  | .t => "tuple_iterator"
def Kd.vs : Kd → PySem.W.Frag → Hp → Addr → List V → Prop
  | .l, K, H, a, xs => SqL K H a xs
  | .t, K, H, a, xs => SqT K H a xs
theorem Kd.it.itE {k : Kd} {h h' : Heap} {b i a n} (x : k.it h i a n) (hs : Heap.ExtBut b h h') (e : i ≠ b) : k.it h' i a n := by
  cases k
  · exact Heap.IsListIter.extBut x hs e
  · exact Heap.IsTupleIter.extBut x hs e
theorem Kd.sq.sqE {k : Kd} {h h' : Heap} {b a xs} (x : k.sq h a xs) (hs : Heap.ExtBut b h h') (e : a ≠ b) : k.sq h' a xs := by
  cases k
  · exact Heap.IsList.extBut x hs e
  · exact Heap.IsTuple.extBut x hs e
theorem Kd.it.itA {k : Kd} {h h' : Heap} {i a n} (x : k.it h i a n) (e : ∀ o, h.get? i = some o → h'.get? i = some o) : k.it h' i a n := by
  cases k
  · exact Heap.IsListIter.at x e
  · exact Heap.IsTupleIter.at x e
theorem Kd.it.itO {k : Kd} {h : Heap} {i a n} (x : k.it h i a n) : ∃ o, h.get? i = some o ∧ ∀ v, o.data ≠ .cell v := by
  cases k
  · obtain ⟨o, e, _, d⟩ := x
    exact ⟨o, e, fun v q => by rw [d] at q; cases q⟩
  · obtain ⟨o, e, _, d⟩ := x
    exact ⟨o, e, fun v q => by rw [d] at q; cases q⟩
theorem Kd.row {k : Kd} {X : Cx} {pins : List (Addr × Obj)} {σ : L2.St} {H : Hp} {s : Shared} {a : Addr} {xs : List V} (I : Inv X pins σ H s) (q : k.vs X.K H a xs) :
    ∃ its : List Value, Vals xs its ∧ k.sq s.heap a its.toArray ∧ a < s.heap.objs.size := by
  cases k
  · obtain ⟨its, rv, p, _⟩ := I.list q
    exact ⟨its, rv, p.isList, p.lt⟩
  · obtain ⟨its, rv, p, _⟩ := I.tuple q
    refine ⟨its, rv, p, ?_⟩
    obtain ⟨o, ho, _⟩ := id p
    exact Heap.lt_size ho
theorem Kd.inj {k : Kd} {X : Cx} {pins : List (Addr × Obj)} {σ : L2.St} {H : Hp} {s : Shared} {a : Addr} {xs ys : List V} (I : Inv X pins σ H s) (q : k.vs X.K H a xs) (q2 : k.vs X.K H a ys) : xs = ys := by
  cases k
  · exact I.list_inj q q2
  · exact I.tuple_inj q q2
section
variable {prog : Program} {w : World} {A : Around} {E : Value → Shared → Prop} {s : Shared}
theorem Kd.nxt {k : Kd} {it l : Addr} {i : Nat} {items} {x : Value} {Q : Value → Shared → Prop} (hit : k.it s.heap it l i) (hl : k.sq s.heap l items) (hx : items[i]? = some x)
    (hQ : ∀ h', k.it h' it l (i + 1) → Heap.SameBut it s.heap h' → Q x { s with heap := h' }) : wpAny (model prog w) A (Builtin.SmallTypes.nextOf (.ref it)) Q E s := by
  cases k
  · exact wpAny_nextOf_list_item hit hl hx hQ
  · exact RZ.nextOf_tuple_item hit hl hx hQ
theorem Kd.fin {k : Kd} {it l : Addr} {i : Nat} {items} {Q : Value → Shared → Prop} (hh : A.handled = none) (hit : k.it s.heap it l i) (hl : k.sq s.heap l items) (hx : items[i]? = none)
    (hE : ∀ h' e, Heap.ExtBut it s.heap h' → (∃ o, h'.get? e = some o ∧ o.cls = .type "StopIteration") → E (.ref e) { s with heap := h' }) : wpAny (model prog w) A (Builtin.SmallTypes.nextOf (.ref it)) Q E s := by
  cases k
  · exact wpAny_nextOf_list_end hh hit hl hx hE
  · exact RZ.nextOf_tuple_end hh hit hl hx hE
/-- one item more of a zip over rows of any sorts -/
theorem item {k1 k2 : Kd} {z TI TO i1 i2 l1 l2 : Addr} {n1 n2 : Nat} {xs ys : Array Value} {x y a b : Value} {Q : Value → Shared → Prop} (D : ZipApart z TI TO i1 i2 l1 l2)
    (hz : IsZip s.heap z TI TO .none) (hTI : IsPair s.heap TI (.ref i1) (.ref i2)) (hTO : IsPair s.heap TO a b)
    (h1 : k1.it s.heap i1 l1 n1) (h2 : k2.it s.heap i2 l2 n2) (hl1 : k1.sq s.heap l1 xs) (hl2 : k2.sq s.heap l2 ys) (hx : xs[n1]? = some x) (hy : ys[n2]? = some y)
    (hQ : ∀ h', IsZip h' z TI TO (rawInt s.heap.objs.size) → IsPair h' TO x y → k1.it h' i1 l1 (n1 + 1) → k2.it h' i2 l2 (n2 + 1) → IsPair h' s.heap.objs.size x y → h'.objs.size = s.heap.objs.size + 1 →
      (∀ c o, c ≠ z → c ≠ TO → c ≠ i1 → c ≠ i2 → s.heap.get? c = some o → h'.get? c = some o) → Q (.ref s.heap.objs.size) { s with heap := h' }) :
    wpAny (model prog w) A (Builtin.«zip.__next__» ⟨[.ref z], []⟩) (fun fin s' => ∃ v, fin = .done (.ret v) ∧ Q v s') E s := by
  show wpAny _ _ (field (.ref z) 2 >>= _) _ _ _
  refine wpAny_bind (wpAny_field hz rfl (x := .bool false) rfl ?_)
  show wpAny _ _ (field (.ref z) 3 >>= _) _ _ _
  refine wpAny_bind (wpAny_field hz rfl (x := .ref TI) rfl (wpAny_bind (wpAny_seqItems hTI rfl ?_)))
  show wpAny _ _ (Builtin.SmallTypes.ownedTupleIsFree (.ref z) >>= _) _ _ _
  refine wpAny_bind ?_
  unfold Builtin.SmallTypes.ownedTupleIsFree
  refine wpAny_bind (wpAny_field hz rfl (x := .none) rfl (wpAny_pure ?_))
  rw [if_pos rfl]
  refine wpAny_bind (wpAny_rule (wpAny_bind (wpAny_field hz rfl (x := .ref TO) rfl (wpAny_bind (wpAny_setField_rec hz (by simp) fun ha za sa => ?_)))))
  replace za : IsZip ha z TI TO .ellipsis := za
  refine wpAny_bind ?_
  simp only [List.zipIdx_cons, List.zipIdx_nil, List.forIn_cons, List.forIn_nil]
  have ea := sa.extBut
  refine wpAny_bind (wpAny_bind (wpAny_onRaise ?_))
  show wpAny _ _ (Builtin.SmallTypes.nextOf (.ref i1) >>= _) _ _ _
  refine wpAny_bind (Kd.nxt (h1.itE ea D.i1z) (hl1.sqE ea D.l1z) hx fun hb ib sb => wpAny_pure ?_)
  have eb := sb.extBut
  have ob : IsPair hb TO a b := eb _ _ D.TOi1 (ea _ _ D.TOz hTO)
  refine wpAny_bind (wpAny_seqItems ob rfl (wpAny_bind (wpAny_updateSeq_pair ob fun hc oc sc => ?_)))
  replace oc : IsPair hc TO x b := oc
  have ec := sc.extBut
  refine wpAny_bind (wpAny_letGo (wpAny_pure ?_))
  refine wpAny_bind (wpAny_bind (wpAny_onRaise ?_))
  show wpAny _ _ (Builtin.SmallTypes.nextOf (.ref i2) >>= _) _ _ _
  refine wpAny_bind (Kd.nxt (((h2.itE ea D.i2z).itE eb D.i12.symm).itE ec D.TOi2.symm) (((hl2.sqE ea D.l2z).sqE eb D.l2i1).sqE ec D.l2TO) hy fun hd jd sd => wpAny_pure ?_)
  have ed := sd.extBut
  have od : IsPair hd TO x b := ed _ _ D.TOi2 oc
  refine wpAny_bind (wpAny_seqItems od rfl (wpAny_bind (wpAny_updateSeq_pair od fun he oe se => ?_)))
  replace oe : IsPair he TO x y := oe
  have ee := se.extBut
  refine wpAny_bind (wpAny_letGo (wpAny_pure (wpAny_pure (wpAny_bind (wpAny_seqItems oe rfl (wpAny_bind (wpAny_newTuple ?_)))))))
  have hsz : he.objs.size = s.heap.objs.size := by rw [se.1, sd.1, sc.1, sb.1, sa.1]
  have ze : IsZip he z TI TO .ellipsis := ee _ _ D.TOz.symm (ed _ _ D.i2z.symm (ec _ _ D.TOz.symm (eb _ _ D.i1z.symm za)))
  have hzlt := Heap.lt_size ze
  show wpAny _ _ (Builtin.SmallTypes.ownedTupleHandOut (.ref z) (.ref he.objs.size) >>= _) _ _ _
  refine wpAny_bind ?_
  unfold Builtin.SmallTypes.ownedTupleHandOut
  have zf : IsZip (he.push { cls := .type "tuple", data := .seq #[x, y] }) z TI TO .ellipsis := Heap.get?_push_of_some _ ze
  refine wpAny_bind (wpAny_setField_rec zf (by simp) fun hg zg sg => ?_)
  replace zg : IsZip hg z TI TO (rawInt he.objs.size) := zg
  refine wpAny_setField_rec zg (by simp) fun hk zk sk => ?_
  replace zk : IsZip hk z TI TO (rawInt he.objs.size) := zk
  have up : ∀ c o, c ≠ z → he.get? c = some o → hk.get? c = some o := fun c o c1 e => sk.extBut _ _ c1 (sg.extBut _ _ c1 (Heap.get?_push_of_some _ e))
  have tk : IsPair hk he.objs.size x y := sk.extBut _ _ (Nat.ne_of_gt hzlt) (sg.extBut _ _ (Nat.ne_of_gt hzlt) (Heap.get?_push_size _ rfl))
  have nk : hk.objs.size = he.objs.size + 1 := by rw [sk.1, sg.1, Heap.size_push]
  rw [hsz] at zk tk nk
  refine wpAny_pure ⟨_, rfl, ?_⟩
  show Q (.ref he.objs.size) _
  rw [hsz]
  exact hQ hk zk (up _ _ D.TOz oe) ((((ib.itE ec D.TOi1.symm).itE ed D.i12).itE ee D.TOi1.symm).itA fun o e => up _ o D.i1z e) ((jd.itE ee D.TOi2.symm).itA fun o e => up _ o D.i2z e) tk nk
    fun c o c1 c2 c3 c4 e => up c o c1 (ee _ _ c2 (ed _ _ c4 (ec _ _ c2 (eb _ _ c3 (ea _ _ c1 e)))))
/-- the end of a zip over rows of any sorts -/
theorem fin {k1 k2 : Kd} {z TI TO i1 i2 l1 l2 : Addr} {n1 n2 : Nat} {xs ys : Array Value} {a b : Value} {Q : Fin → Shared → Prop} (hh : A.handled = none) (D : ZipApart z TI TO i1 i2 l1 l2)
    (hz : IsZip s.heap z TI TO .none) (hTI : IsPair s.heap TI (.ref i1) (.ref i2)) (hTO : IsPair s.heap TO a b)
    (h1 : k1.it s.heap i1 l1 n1) (h2 : k2.it s.heap i2 l2 n2) (hl1 : k1.sq s.heap l1 xs) (hl2 : k2.sq s.heap l2 ys) (hend : xs[n1]? = none ∨ ys[n2]? = none)
    (hE : ∀ h' e, (∀ c o, c ≠ z → c ≠ TO → c ≠ i1 → c ≠ i2 → s.heap.get? c = some o → h'.get? c = some o) → (∃ o, h'.get? e = some o ∧ o.cls = .type "StopIteration") → E (.ref e) { s with heap := h' }) :
    wpAny (model prog w) A (Builtin.«zip.__next__» ⟨[.ref z], []⟩) Q E s := by
  show wpAny _ _ (field (.ref z) 2 >>= _) _ _ _
  refine wpAny_bind (wpAny_field hz rfl (x := .bool false) rfl ?_)
  show wpAny _ _ (field (.ref z) 3 >>= _) _ _ _
  refine wpAny_bind (wpAny_field hz rfl (x := .ref TI) rfl (wpAny_bind (wpAny_seqItems hTI rfl ?_)))
  show wpAny _ _ (Builtin.SmallTypes.ownedTupleIsFree (.ref z) >>= _) _ _ _
  refine wpAny_bind ?_
  unfold Builtin.SmallTypes.ownedTupleIsFree
  refine wpAny_bind (wpAny_field hz rfl (x := .none) rfl (wpAny_pure ?_))
  rw [if_pos rfl]
  refine wpAny_bind (wpAny_rule (wpAny_bind (wpAny_field hz rfl (x := .ref TO) rfl (wpAny_bind (wpAny_setField_rec hz (by simp) fun ha za sa => ?_)))))
  replace za : IsZip ha z TI TO .ellipsis := za
  refine wpAny_bind ?_
  simp only [List.zipIdx_cons, List.zipIdx_nil, List.forIn_cons, List.forIn_nil]
  have ea := sa.extBut
  refine wpAny_bind (wpAny_bind (wpAny_onRaise ?_))
  show wpAny _ _ (Builtin.SmallTypes.nextOf (.ref i1) >>= _) _ _ _
  -- an error object is none of the zip's own
  have off : ∀ {g : Heap} {e : Addr} {o : Obj}, IsZip g z TI TO .ellipsis → g.get? e = some o → o.cls = .type "StopIteration" → e ≠ z := fun {g e o} gz ge gc q => by
    subst q
    rw [gz] at ge
    cases ge
    simp at gc
  cases hx : xs[n1]? with
  | none =>
    refine wpAny_bind (Kd.fin hh (h1.itE ea D.i1z) (hl1.sqE ea D.l1z) hx fun hb e eb ⟨oe, ge, gc⟩ => ?_)
    have zb : IsZip hb z TI TO .ellipsis := eb _ _ D.i1z.symm za
    exact wpAny_setField_rec zb (by simp) fun hc _ sc => hE hc e (fun c o c1 _ c3 _ q => sc.extBut _ _ c1 (eb _ _ c3 (ea _ _ c1 q))) ⟨oe, sc.extBut _ _ (off zb ge gc) ge, gc⟩
  | some x =>
    have hy : ys[n2]? = none := by
      rcases hend with h | h
      · rw [hx] at h; cases h
      · exact h
    refine wpAny_bind (Kd.nxt (h1.itE ea D.i1z) (hl1.sqE ea D.l1z) hx fun hb ib sb => wpAny_pure ?_)
    have eb := sb.extBut
    have ob : IsPair hb TO a b := eb _ _ D.TOi1 (ea _ _ D.TOz hTO)
    refine wpAny_bind (wpAny_seqItems ob rfl (wpAny_bind (wpAny_updateSeq_pair ob fun hc oc sc => ?_)))
    have ec := sc.extBut
    refine wpAny_bind (wpAny_letGo (wpAny_pure ?_))
    refine wpAny_bind (wpAny_bind (wpAny_onRaise ?_))
    show wpAny _ _ (Builtin.SmallTypes.nextOf (.ref i2) >>= _) _ _ _
    refine wpAny_bind (Kd.fin hh (((h2.itE ea D.i2z).itE eb D.i12.symm).itE ec D.TOi2.symm) (((hl2.sqE ea D.l2z).sqE eb D.l2i1).sqE ec D.l2TO) hy fun hd e ed ⟨oe, ge, gc⟩ => ?_)
    have zd : IsZip hd z TI TO .ellipsis := ed _ _ D.i2z.symm (ec _ _ D.TOz.symm (eb _ _ D.i1z.symm za))
    exact wpAny_setField_rec zd (by simp) fun hk _ sk => hE hk e (fun c o c1 c2 c3 c4 q => sk.extBut _ _ c1 (ed _ _ c4 (ec _ _ c2 (eb _ _ c3 (ea _ _ c1 q))))) ⟨oe, sk.extBut _ _ (off zd ge gc) ge, gc⟩
theorem next {k1 k2 : Kd} {z TI TO i1 i2 l1 l2 : Addr} {n1 n2 : Nat} {xs ys : Array Value} {x y a b : Value} {Q : Option Value → Shared → Prop} (D : ZipApart z TI TO i1 i2 l1 l2)
    (hz : IsZip s.heap z TI TO .none) (hTI : IsPair s.heap TI (.ref i1) (.ref i2)) (hTO : IsPair s.heap TO a b)
    (h1 : k1.it s.heap i1 l1 n1) (h2 : k2.it s.heap i2 l2 n2) (hl1 : k1.sq s.heap l1 xs) (hl2 : k2.sq s.heap l2 ys) (hx : xs[n1]? = some x) (hy : ys[n2]? = some y)
    (hQ : ∀ h', IsZip h' z TI TO (rawInt s.heap.objs.size) → IsPair h' TO x y → k1.it h' i1 l1 (n1 + 1) → k2.it h' i2 l2 (n2 + 1) → IsPair h' s.heap.objs.size x y → h'.objs.size = s.heap.objs.size + 1 →
      (∀ c o, c ≠ z → c ≠ TO → c ≠ i1 → c ≠ i2 → s.heap.get? c = some o → h'.get? c = some o) → Q (some (.ref s.heap.objs.size)) { s with heap := h' }) :
    wpAny (model prog w) A (pyNext (.ref z)) Q E s := by
  have hT : s.TypeIs (.ref z) "zip" := ⟨_, hz, rfl⟩
  unfold pyNext
  refine wpAny_bind (wpAny_attempt (wpAny_callSpecial?_slot (name := Str.ofString "__next__") hT F.slot_zip_next (wpAny_call_entry F.slot_zip_next hT F.entry_zip_next ?_ (F.args_zip_next_1 _))))
  exact item D hz hTI hTO h1 h2 hl1 hl2 hx hy fun h' a1 a2 a3 a4 a5 a6 a7 => wpAny_pure (hQ h' a1 a2 a3 a4 a5 a6 a7)
theorem last {k1 k2 : Kd} {z TI TO i1 i2 l1 l2 : Addr} {n1 n2 : Nat} {xs ys : Array Value} {a b : Value} {Q : Option Value → Shared → Prop} (hh : A.handled = none) (D : ZipApart z TI TO i1 i2 l1 l2)
    (hz : IsZip s.heap z TI TO .none) (hTI : IsPair s.heap TI (.ref i1) (.ref i2)) (hTO : IsPair s.heap TO a b)
    (h1 : k1.it s.heap i1 l1 n1) (h2 : k2.it s.heap i2 l2 n2) (hl1 : k1.sq s.heap l1 xs) (hl2 : k2.sq s.heap l2 ys) (hend : xs[n1]? = none ∨ ys[n2]? = none)
    (hQ : ∀ h', (∀ c o, c ≠ z → c ≠ TO → c ≠ i1 → c ≠ i2 → s.heap.get? c = some o → h'.get? c = some o) → Q none { s with heap := h' }) : wpAny (model prog w) A (pyNext (.ref z)) Q E s := by
  have hT : s.TypeIs (.ref z) "zip" := ⟨_, hz, rfl⟩
  unfold pyNext
  refine wpAny_bind (wpAny_attempt (wpAny_callSpecial?_slot (name := Str.ofString "__next__") hT F.slot_zip_next (wpAny_call_entry F.slot_zip_next hT F.entry_zip_next ?_ (F.args_zip_next_1 _))))
  refine fin hh D hz hTI hTO h1 h2 hl1 hl2 hend fun h' e hk ⟨o, ho, hc⟩ => ?_
  exact wpAny_bind (wpAny_isInstance (T := "StopIteration") (b := true) ⟨o, ho, hc⟩ isSubtype_stop (wpAny_pure (hQ _ hk)))
end
def Kd.io (k : Kd) (a : Addr) : Obj := { cls := .type k.nm, data := .fields #[.ref a, .int 0 0] }
abbrev g1 (k1 : Kd) (h : Heap) (a : Addr) : Heap := h.push (k1.io a)
abbrev g2 (k1 k2 : Kd) (h : Heap) (a b : Addr) : Heap := (g1 k1 h a).push (k2.io b)
abbrev g3 (k1 k2 : Kd) (h : Heap) (a b : Addr) : Heap := (g2 k1 k2 h a b).push { cls := .type "tuple", data := .seq #[.ref h.objs.size, .ref (g1 k1 h a).objs.size] }
abbrev g4 (k1 k2 : Kd) (h : Heap) (a b : Addr) : Heap := (g3 k1 k2 h a b).push { cls := .type "tuple", data := .seq #[.none, .none] }
abbrev g5 (k1 k2 : Kd) (h : Heap) (a b : Addr) : Heap := (g4 k1 k2 h a b).push { cls := .type "zip", data := .fields #[.none, .bool false, .bool false, .ref (g2 k1 k2 h a b).objs.size, .ref (g3 k1 k2 h a b).objs.size] }
theorem born (k1 k2 : Kd) (a b : Addr) (xs ys : Array Value) :
    Meets (Builtin.«zip.__new__» ⟨[.type "zip", .ref a, .ref b], []⟩) (fun _ R s => k1.sq s.heap a xs ∧ k2.sq s.heap b ys ∧
      R (.ok (.ret (.ref (g4 k1 k2 s.heap a b).objs.size))) { s with heap := g5 k1 k2 s.heap a b }) :=
  .of_wp fun prog w A R s h => by
    obtain ⟨hp, g, d, tk, os⟩ := s
    obtain ⟨hl1, hl2, h⟩ := h
    have hsub := sub_zip
    cases k1 <;> cases k2
    · have u1 : Heap.IsList (Shared.heap ⟨hp, g, d, tk, os⟩) a xs := hl1
      have u2 : Heap.IsList (Shared.heap ⟨hp.push { cls := .type "list_iterator", data := .fields #[.ref a, .int 0 0] }, g, d, tk, os⟩) b ys := Heap.IsList.push hl2 _
      wp_walk using wpAny_pyIter_list u1, wpAny_pyIter_list u2
      exact ⟨_, rfl, h⟩
    · have u1 : Heap.IsList (Shared.heap ⟨hp, g, d, tk, os⟩) a xs := hl1
      have u2 : Heap.IsTuple (Shared.heap ⟨hp.push { cls := .type "list_iterator", data := .fields #[.ref a, .int 0 0] }, g, d, tk, os⟩) b ys := Heap.IsTuple.push hl2 _
      wp_walk using wpAny_pyIter_list u1, wpAny_pyIter_tuple u2
      exact ⟨_, rfl, h⟩
    · have u1 : Heap.IsTuple (Shared.heap ⟨hp, g, d, tk, os⟩) a xs := hl1
      have u2 : Heap.IsList (Shared.heap ⟨hp.push { cls := .type "tuple_iterator", data := .fields #[.ref a, .int 0 0] }, g, d, tk, os⟩) b ys := Heap.IsList.push hl2 _
      wp_walk using wpAny_pyIter_tuple u1, wpAny_pyIter_list u2
      exact ⟨_, rfl, h⟩
    · have u1 : Heap.IsTuple (Shared.heap ⟨hp, g, d, tk, os⟩) a xs := hl1
      have u2 : Heap.IsTuple (Shared.heap ⟨hp.push { cls := .type "tuple_iterator", data := .fields #[.ref a, .int 0 0] }, g, d, tk, os⟩) b ys := Heap.IsTuple.push hl2 _
      wp_walk using wpAny_pyIter_tuple u1, wpAny_pyIter_tuple u2
      exact ⟨_, rfl, h⟩
theorem Kd.it0 {k : Kd} {h : Heap} {i a : Addr} (e : h.get? i = some (k.io a)) : k.it h i a 0 := by
  cases k
  · exact ⟨_, e, rfl, rfl⟩
  · exact ⟨_, e, rfl, rfl⟩
theorem made {prog : Program} {w : World} {A : Around} {E : Value → Shared → Prop} {s : Shared} {k1 k2 : Kd} {a b : Addr} {xs ys : Array Value} {Q : Value → Shared → Prop} (hl1 : k1.sq s.heap a xs) (hl2 : k2.sq s.heap b ys)
    (h : ∀ h', IsZip h' (s.heap.objs.size + 4) (s.heap.objs.size + 2) (s.heap.objs.size + 3) .none → IsPair h' (s.heap.objs.size + 2) (.ref s.heap.objs.size) (.ref (s.heap.objs.size + 1)) →
      IsPair h' (s.heap.objs.size + 3) .none .none → k1.it h' s.heap.objs.size a 0 → k2.it h' (s.heap.objs.size + 1) b 0 →
      (∀ c o, s.heap.get? c = some o → h'.get? c = some o) → Q (.ref (s.heap.objs.size + 4)) { s with heap := h' }) :
    wpAny (model prog w) A (call (.type "zip") [.ref a, .ref b]) Q E s := by
  refine callType_new F.called_zip (by decide) (F.typeCall_zip_2 _ _) (F.newCall_zip_2 _ _) (fun obj => F.args_object_init_3 obj _ _) F.entry_zip_new (born k1 k2 a b xs ys) ⟨hl1, hl2, ?_⟩
  have n1 : (g1 k1 s.heap a).objs.size = s.heap.objs.size + 1 := Heap.size_push ..
  have n2 : (g2 k1 k2 s.heap a b).objs.size = s.heap.objs.size + 2 := by rw [Heap.size_push, n1]
  have n3 : (g3 k1 k2 s.heap a b).objs.size = s.heap.objs.size + 3 := by rw [Heap.size_push, n2]
  have n4 : (g4 k1 k2 s.heap a b).objs.size = s.heap.objs.size + 4 := by rw [Heap.size_push, n3]
  have up : ∀ {g : Heap} {c : Addr} {o : Obj} (p : Obj), g.get? c = some o → (g.push p).get? c = some o := fun p e => Heap.get?_push_of_some _ e
  have e5 : (g5 k1 k2 s.heap a b).get? (g4 k1 k2 s.heap a b).objs.size = some _ := Heap.get?_push_size _ rfl
  have e4 : (g5 k1 k2 s.heap a b).get? (g3 k1 k2 s.heap a b).objs.size = some _ := up _ (Heap.get?_push_size _ rfl)
  have e3 : (g5 k1 k2 s.heap a b).get? (g2 k1 k2 s.heap a b).objs.size = some _ := up _ (up _ (Heap.get?_push_size _ rfl))
  have e2 : (g5 k1 k2 s.heap a b).get? (g1 k1 s.heap a).objs.size = some (k2.io b) := up _ (up _ (up _ (Heap.get?_push_size _ (by cases k2 <;> rfl))))
  have e1 : (g5 k1 k2 s.heap a b).get? s.heap.objs.size = some (k1.io a) := up _ (up _ (up _ (up _ (Heap.get?_push_size _ (by cases k1 <;> rfl)))))
  show _ ∧ _
  rw [n2, n3, n4] at e5
  rw [n1, n2] at e3
  rw [n3] at e4
  rw [n1] at e2
  rw [n4]
  exact ⟨⟨_, e5, rfl⟩, h _ e5 e3 e4 (Kd.it0 e1) (Kd.it0 e2) fun c o x => up _ (up _ (up _ (up _ (up _ x))))⟩
/-- the rows at a and b as they stand at each turn, the items in new pairs -/
def It2 (k1 k2 : Kd) (K : PySem.W.Frag) (a b : Addr) : It :=
  ⟨fun i H => ∃ (xs ys : List V) (x y : V), k1.vs K H a xs ∧ k2.vs K H b ys ∧ xs[i]? = some x ∧ ys[i]? = some y,
    fun i H v H' => ∃ T x y, v = .ref T ∧ H T = none ∧ H' = upd H T (.tup [x, y]) ∧ (∀ xs, k1.vs K H a xs → xs[i]? = some x) ∧ ∀ ys, k2.vs K H b ys → ys[i]? = some y,
    fun i H => ∃ xs ys : List V, k1.vs K H a xs ∧ k2.vs K H b ys ∧ (xs.length ≤ i ∨ ys.length ≤ i)⟩
theorem turn {P : Program} {w : World} {K : PySem.W.Frag} {elts : List Expr} {kk : Nat} {tpos : Pos} {k1 k2 : Kd} {a b z TI TO i1 i2 : Addr} (D : ZipApart z TI TO i1 i2 a b) :
    Turn P w K (.Tuple elts kk tpos) (It2 k1 k2 K a b) [z, TI, TO, i1, i2] z (fun i h => IsZip h z TI TO .none ∧ IsPair h TI (.ref i1) (.ref i2) ∧ (∃ x y, IsPair h TO x y) ∧ k1.it h i1 a i ∧ k2.it h i2 b i) where
  mem := by simp
  obj := fun i h st c hc => by
    obtain ⟨hz, hTI, ⟨x, y, hTO⟩, h1, h2⟩ := st
    simp only [List.mem_cons, List.not_mem_nil, or_false] at hc
    rcases hc with rfl | rfl | rfl | rfl | rfl
    · exact ⟨_, hz, fun v q => nomatch q⟩
    · exact ⟨_, hTI, fun v q => nomatch q⟩
    · exact ⟨_, hTO, fun v q => nomatch q⟩
    · exact h1.itO
    · exact h2.itO
  keep := fun i h h' st k => by
    obtain ⟨hz, hTI, ⟨x, y, hTO⟩, h1, h2⟩ := st
    exact ⟨k z (by simp) _ hz, k TI (by simp) _ hTI, ⟨x, y, k TO (by simp) _ hTO⟩, h1.itA fun o q => k i1 (by simp) o q, h2.itA fun o q => k i2 (by simp) o q⟩
  item := by
    intro X hP hw hK hc i pins s σ H E I hf st hg
    subst hP hw hK
    obtain ⟨hz, hTI, ⟨x0, y0, hTO⟩, h1, h2⟩ := st
    obtain ⟨xs, ys, x, y, hqx, hqy, hx, hy⟩ := hg
    obtain ⟨its, rv, p, _⟩ := Kd.row I hqx
    obtain ⟨its2, rv2, p2, _⟩ := Kd.row I hqy
    obtain ⟨u, hu, ru⟩ := rv.get hx
    obtain ⟨u2, hu2, ru2⟩ := rv2.get hy
    have hzl : z < s.heap.objs.size := Heap.lt_size hz
    refine next D hz hTI hTO h1 h2 p p2 (x := u) (y := u2) (by simpa using hu) (by simpa using hu2) fun h' z' TO' h1' h2' hT hsz hk => ⟨_, rfl, wpAny_letOwnedTupleGo_zip (s := { s with heap := h' }) z' fun h'' z'' sb => ?_⟩
    have hT2 : h''.get? s.heap.objs.size = some { cls := .type "tuple", data := .seq #[u, u2] } := (sb.2 _ (Nat.ne_of_gt hzl)).trans hT
    have new : ObjOk X.prog X.w (upd H s.heap.objs.size (.tup [x, y])) h'' s.heap.objs.size (.tup [x, y]) :=
      ⟨by show 2 ≤ sizeLine; decide, [u, u2], .cons ru (.cons ru2 .nil), ⟨_, hT2, rfl, _, rfl⟩⟩
    have I1 : Inv X pins σ (upd H s.heap.objs.size (.tup [x, y])) { s with heap := h'' } :=
      I.turnedNew (t' := s.toks) (ch := [z, TI, TO, i1, i2]) (fun c o hb q => by
        simp only [List.mem_cons, List.not_mem_nil, or_false, not_or] at hb
        exact (sb.2 c hb.1).trans (hk c o hb.1 hb.2.2.1 hb.2.2.2.1 hb.2.2.2.2 q)) hf (Nat.le_refl _) new
    refine ⟨.ref s.heap.objs.size, _, I1, rfl, ⟨_, x, y, rfl, I.hok.fresh (Nat.le_refl _), rfl, fun l hl => by rw [Kd.inj I hl hqx]; exact hx, fun l hl => by rw [Kd.inj I hl hqy]; exact hy⟩, ⟨z'', (sb.2 _ D.TIz).trans (hk _ _ D.TIz D.TITO D.TIi1 D.TIi2 hTI), ⟨u, u2, (sb.2 _ D.TOz).trans TO'⟩, h1'.itA fun o q => (sb.2 _ D.i1z).trans q, h2'.itA fun o q => (sb.2 _ D.i2z).trans q⟩, fun c hcm => ?_⟩
    have hlt : c < s.heap.objs.size := by
      simp only [List.mem_cons, List.not_mem_nil, or_false] at hcm
      rcases hcm with rfl | rfl | rfl | rfl | rfl
      · exact hzl
      · exact Heap.lt_size hTI
      · exact Heap.lt_size hTO
      · obtain ⟨_, e1, _⟩ := h1.itO; exact Heap.lt_size e1
      · obtain ⟨_, e2, _⟩ := h2.itO; exact Heap.lt_size e2
    rw [upd_ne (Nat.ne_of_lt hlt)]
    exact (hf c hcm).1
  done := by
    intro X hP hw hK hc i pins s σ H E I hf st hg
    subst hP hw hK
    obtain ⟨hz, hTI, ⟨x0, y0, hTO⟩, h1, h2⟩ := st
    obtain ⟨xs, ys, hqx, hqy, hend⟩ := hg
    obtain ⟨its, rv, p, _⟩ := Kd.row I hqx
    obtain ⟨its2, rv2, p2, _⟩ := Kd.row I hqy
    have l1 := rv.length
    have l2 := rv2.length
    have he : its.toArray[i]? = none ∨ its2.toArray[i]? = none := by
      rcases hend with q | q
      · exact .inl (by simp; omega)
      · exact .inr (by simp; omega)
    refine last (I.ok.hd hc) D hz hTI hTO h1 h2 p p2 he fun h' hk => ⟨rfl, I.turnedL (t' := s.toks) (ch := [z, TI, TO, i1, i2]) (fun c o hb q => ?_) hf⟩
    simp only [List.mem_cons, List.not_mem_nil, or_false, not_or] at hb
    exact hk c o hb.1 hb.2.2.1 hb.2.2.2.1 hb.2.2.2.2 q
  self := fun A i s Q E st h => wpAny_pyIter_zip st.1 h
def iZip2 (K : PySem.W.Frag) (ta : TA) : TI := fun σ H R => ta σ H fun vs H1 => ∃ (k1 k2 : Kd) (a b : Addr) (xs ys : List V), vs = [.ref a, .ref b] ∧ k1.vs K H1 a xs ∧ k2.vs K H1 b ys ∧ R (It2 k1 k2 K a b) H1
theorem pi_zip2 {X : Cx} {e e2 : Expr} {ta : TA} {p pos tpos : Pos} {elts : List Expr} {kk : Nat} (hg : Gl X "zip") (hm : X.mg "zip" = none) (ha : PA X [e, e2] ta)
    (hs : starEach [e, e2] X.env = (false, eval e X.env) :: starEach [e2] X.env := by rfl) (hpl : (backTo pos (starEach [e2] X.env)).any (·.1) = false := by rfl) :
    PI X (.Tuple elts kk tpos) (.Call (.Name "zip" p) [e, e2] [] pos) (iZip2 X.K ta) := by
  refine ⟨fun pins s σ H R I h => Call_ (ld_blt I hg hm PyProof.Rows.boot_zip (PyProof.Rows.callWith_type1 (thn (ha.run pos pins s σ H _ I h) fun us s1 ⟨vs, H1, I1, r1, q1⟩ => ?_) hs hpl))⟩
  obtain ⟨k1, k2, a, b, xs, ys, rfl, hqx, hqy, q⟩ := q1
  cases r1 with
  | cons r rr =>
    cases rr with
    | cons r' rr =>
      cases rr
      cases r
      cases r'
      obtain ⟨its, rv, p1, la⟩ := Kd.row I1 hqx
      obtain ⟨its2, rv2, p2, lb⟩ := Kd.row I1 hqy
      refine made p1 p2 fun h' hz hTI hTO h1 h2 hk => wpAny_pyIter_zip hz ?_
      refine ⟨s1.heap.objs.size + 4, [s1.heap.objs.size + 4, s1.heap.objs.size + 2, s1.heap.objs.size + 3, s1.heap.objs.size, s1.heap.objs.size + 1], _, _, H1, rfl, I1.kept (t' := s1.toks) hk, turn (PySem.W.ktu_apart s1.heap.objs.size a b la lb), ⟨hz, hTI, ⟨_, _, hTO⟩, h1, h2⟩, fun c hcm => ?_, q⟩
      have hle : s1.heap.objs.size ≤ c := by
        simp only [List.mem_cons, List.not_mem_nil, or_false] at hcm
        rcases hcm with rfl | rfl | rfl | rfl | rfl
        all_goals first | exact Nat.le_add_right _ _ | exact Nat.le_refl _
      exact I1.fpOk hle (I1.hok.fresh hle)
/-- a comprehension's loop over two rows of one length -/
theorem for_zip2 {K : PySem.W.Frag} {k1 k2 : Kd} {a b : Addr} {xs ys : List V} {g : TG} {tb : TS} {D : Ends} {σ : L2.St} {H : Hp} (hl : xs.length = ys.length) (Pv : Nat → L2.St → Hp → Prop) (h0 : Pv 0 σ H) (hq : ∀ i σ H, Pv i σ H → k1.vs K H a xs ∧ k2.vs K H b ys)
    (hs : ∀ (i : Nat) (x y : V) (T : Addr) (σ : L2.St) (H : Hp), xs[i]? = some x → ys[i]? = some y → Pv i σ H → H T = none → g (.ref T) σ (upd H T (.tup [x, y])) fun σ2 H2 => tb { D with nx := Pv (i + 1), ct := Pv (i + 1), bk := D.nx } σ2 H2) (hd : ∀ σ H, Pv xs.length σ H → D.nx σ H) :
    ∃ W : Nat → Nat → L2.St → Hp → Prop, (∃ m, W 0 m σ H) ∧ ∀ i m σ H, W i m σ H →
      ((It2 k1 k2 K a b).stop i H ∧ D.nx σ H) ∨ ((It2 k1 k2 K a b).go i H ∧ ∃ N : L2.St → Hp → Prop, (∀ σ' H', N σ' H' → ∃ m', m' < m ∧ W (i + 1) m' σ' H') ∧ ∀ v H', (It2 k1 k2 K a b).yld i H v H' → g v σ H' fun σ2 H2 => tb { D with nx := N, ct := N, bk := D.nx } σ2 H2) := by
  refine ⟨fun i m σ H => m = xs.length - i ∧ i ≤ xs.length ∧ Pv i σ H, ⟨xs.length, rfl, Nat.zero_le _, h0⟩, ?_⟩
  rintro i m σ H ⟨rfl, hi, p⟩
  obtain ⟨qx, qy⟩ := hq i σ H p
  rcases Nat.lt_or_ge i xs.length with hlt | hge
  · have hx : xs[i]? = some xs[i] := List.getElem?_eq_getElem hlt
    have hy : ys[i]? = some (ys[i]'(by omega)) := List.getElem?_eq_getElem (by omega)
    refine .inr ⟨⟨xs, ys, _, _, qx, qy, hx, hy⟩, Pv (i + 1), fun σ' H' p' => ⟨xs.length - (i + 1), by omega, rfl, hlt, p'⟩, ?_⟩
    rintro v H' ⟨T, x', y', rfl, hT, rfl, f1, f2⟩
    exact hs i x' y' T σ H (f1 xs qx) (f2 ys qy) p hT
  · obtain rfl : i = xs.length := by omega
    exact .inl ⟨⟨xs, ys, qx, qy, Or.inl (Nat.le_refl _)⟩, hd σ H p⟩
end ZM

namespace ZM
open PySem PySem.Spec PyProof.Rows L2
/-! enumerate over a list or a tuple, from any count -/
def ItE (k : Kd) (k0 : Int) (K : PySem.W.Frag) (a : Addr) : It :=
  ⟨fun i H => ∃ (xs : List V) (x : V), k.vs K H a xs ∧ xs[i]? = some x,
    fun i H v H' => ∃ T x, v = .ref T ∧ H T = none ∧ H' = upd H T (.tup [.int (k0 + (i : Int)), x]) ∧ ∀ xs, k.vs K H a xs → xs[i]? = some x,
    fun i H => ∃ xs : List V, k.vs K H a xs ∧ xs.length = i⟩
theorem Kd.drw (k : Kd) {prog : Program} {w : World} {A : Around} (hh : A.handled = none) {it a : Addr} (ne : a ≠ it) (vs : Array Value) :
    Draws prog w A it [it, a] vs.size (fun i v => vs[i]? = some v) (fun i h => k.it h it a i ∧ k.sq h a vs) := by
  cases k
  · exact .list hh it a ne vs
  · exact .tuple hh it a ne vs
theorem turnE {P : Program} {w : World} {K : PySem.W.Frag} {elts : List Expr} {kk : Nat} {tpos : Pos} (k : Kd) (k0 : Int) (a e it : Addr) :
    Turn P w K (.Tuple elts kk tpos) (ItE k k0 K a) [e, it] e (fun i h => (∃ old, IsEnum h e it (k0 + (i : Int)) old) ∧ k.it h it a i ∧ e ≠ it ∧ a ≠ it ∧ a ≠ e) where
  mem := by simp
  obj := by
    rintro i h ⟨⟨old, he⟩, hi, _⟩ b hb
    simp only [List.mem_cons, List.not_mem_nil, or_false] at hb
    rcases hb with rfl | rfl
    · exact ⟨_, he, fun v q => nomatch q⟩
    · exact hi.itO
  keep := by
    rintro i h h' ⟨⟨old, he⟩, hi, hne⟩ ke
    exact ⟨⟨old, ke e (by simp) _ he⟩, hi.itA fun o q => ke it (by simp) o q, hne⟩
  item := by
    intro X hP hw hK hc i pins s σ H E I hf st hg
    subst hP hw hK
    obtain ⟨⟨old, he⟩, hit, n1, n2, n3⟩ := st
    obtain ⟨xs, x, hq, hx⟩ := hg
    obtain ⟨vs, rv, p, la⟩ := Kd.row I hq
    obtain ⟨u, hu, ru⟩ := rv.get hx
    have hi : i < vs.toArray.size := by rw [List.size_toArray]; exact (List.getElem?_eq_some_iff.mp hu).1
    have el : e < s.heap.objs.size := Heap.lt_size he
    have il : it < s.heap.objs.size := by obtain ⟨_, q, _⟩ := hit.itO; exact Heap.lt_size q
    refine wpAny_pyNext_enum_itemC (k.drw (prog := X.prog) (w := X.w) (A := X.A.in1) (I.ok.hd hc) n2 vs.toArray) he ⟨hit, p⟩ hi n1 (by simp [n1, Ne.symm n3]) fun y h' tk hy ho hs' hT hsz kp => ?_
    obtain rfl : y = u := Option.some.inj (hy.symm.trans (by simpa using hu))
    refine ⟨_, rfl, wpAny_letOwnedTupleGo_enum (s := { s with heap := h', toks := tk + 1 }) ho fun h2 he2 sb => ?_⟩
    have hT2 : h2.get? s.heap.objs.size = some { cls := .type "tuple", data := .seq #[.int (k0 + (i : Int)) tk, y] } := (sb.2 _ (Nat.ne_of_gt el)).trans hT
    have new : ObjOk X.prog X.w (upd H s.heap.objs.size (.tup [.int (k0 + (i : Int)), x])) h2 s.heap.objs.size (.tup [.int (k0 + (i : Int)), x]) :=
      ⟨by show 2 ≤ sizeLine; decide, [.int (k0 + (i : Int)) tk, y], .cons ⟨_, rfl⟩ (.cons ru .nil), ⟨_, hT2, rfl, _, rfl⟩⟩
    have I1 : Inv X pins σ (upd H s.heap.objs.size (.tup [.int (k0 + (i : Int)), x])) { s with heap := h2, toks := tk + 1 } :=
      I.turnedNew (ch := [e, it]) (fun b ob hb q => (sb.2 b (fun z => hb (by simp [z]))).trans (kp b ob (fun z => hb (by simp [z])) (fun z => hb (by simp [z])) q)) hf (Nat.le_refl _) new
    refine ⟨.ref s.heap.objs.size, _, I1, rfl, ⟨_, x, rfl, I.hok.fresh (Nat.le_refl _), rfl, fun ys hy => by rw [Kd.inj I hy hq]; exact hx⟩, ⟨⟨y, ?_⟩, hs'.1.itA fun o q => (sb.2 it (Ne.symm n1)).trans q, n1, n2, n3⟩, fun b hb => ?_⟩
    · rw [show k0 + ((i + 1 : Nat) : Int) = k0 + (i : Int) + 1 by omega]
      exact he2
    · simp only [List.mem_cons, List.not_mem_nil, or_false] at hb
      have hb' : b < s.heap.objs.size := by
        rcases hb with rfl | rfl
        · exact el
        · exact il
      rw [upd_ne (Nat.ne_of_lt hb')]
      exact (hf b (by simp only [List.mem_cons, List.not_mem_nil, or_false]; exact hb)).1
  done := by
    intro X hP hw hK hc i pins s σ H E I hf st hg
    subst hP hw hK
    obtain ⟨⟨old, he⟩, hit, n1, n2, n3⟩ := st
    obtain ⟨xs, hq, rfl⟩ := hg
    obtain ⟨vs, rv, p, la⟩ := Kd.row I hq
    have hl : vs.toArray.size = xs.length := by rw [List.size_toArray]; exact rv.length.symm
    obtain ⟨f0, f1, f2, f3, f4, f5⟩ := hf it (by simp)
    refine wpAny_pyNext_enum_endD (k.drw (prog := X.prog) (w := X.w) (A := X.A.in1) (I.ok.hd hc) n2 vs.toArray) he ⟨by rw [hl]; exact hit, p⟩ fun h' eb => ⟨rfl, I.turned (t' := s.toks) (fun b o hb q => eb b o hb q) f0 f1 f3 f4 f5⟩
  self := fun A i s Q E st h => let ⟨⟨_, he⟩, _⟩ := st; wpAny_pyIter_enum he h
theorem Kd.beg (k : Kd) (a : Addr) (vs : Array Value) : Begins (.ref a) (k.io a) fun h => k.sq h a vs := by
  cases k
  · exact begins_list a vs
  · exact begins_tuple a vs
theorem bornE {v : Value} {o : Obj} {Hb : Heap → Prop} (B : Begins v o Hb) :
    Meets (Builtin.«enumerate.__new__» ⟨[.type "enumerate", v], []⟩) (fun _ R s => Hb s.heap ∧
      R (.ok (.ret (.ref (s.heap.push o).objs.size))) { s with heap := (s.heap.push o).push { cls := .type "enumerate", data := .fields #[.none, .bool false, .ref s.heap.objs.size, rawInt 0, .none, .none] } }) := by
  refine .of_wp fun prog w A R s ⟨b0, r⟩ => ?_
  obtain ⟨h0, g, d, tk, os⟩ := s
  have hsub := sub_enumerate
  have it : ∀ {A2 : Around} {E2 : Value → Shared → Prop} {Q2 : Value → Shared → Prop}, Q2 (.ref h0.objs.size) ⟨h0.push o, g, d, tk, os⟩ → wpAny (model prog w) A2 (pyIter v) Q2 E2 ⟨h0, g, d, tk, os⟩ :=
    fun q => B.iter prog w _ _ ⟨h0, g, d, tk, os⟩ _ b0 q
  wp_walk using it
  refine wpAny_stack_any fun st => wpAny_pure ?_
  split
  · rename_i c _ _ _ _ _
    cases (c == Value.type "enumerate") <;> (wp_walk using it; exact ⟨_, rfl, r⟩)
  · wp_walk using it
    exact ⟨_, rfl, r⟩
section
variable {prog : Program} {w : World} {A : Around} {E : Value → Shared → Prop} {s : Shared}
theorem madeE {v : Value} {o : Obj} {Hb : Heap → Prop} {Q : Value → Shared → Prop} (B : Begins v o Hb) (h1 : Hb s.heap)
    (h : ∀ h', IsEnum h' (s.heap.objs.size + 1) s.heap.objs.size 0 .none → h'.get? s.heap.objs.size = some o → (∀ b o, s.heap.get? b = some o → h'.get? b = some o) → Q (.ref (s.heap.objs.size + 1)) { s with heap := h' }) :
    wpAny (model prog w) A (call (.type "enumerate") [v]) Q E s := by
  have hz : (s.heap.push o).objs.size = s.heap.objs.size + 1 := Heap.size_push ..
  have he := Heap.get?_push_size (s.heap.push o) (o := { cls := .type "enumerate", data := .fields #[.none, .bool false, .ref s.heap.objs.size, rawInt 0, .none, .none] }) rfl
  rw [hz] at he
  refine callType_new F.called_enumerate (by decide) (F.typeCall_enumerate_1 _) (F.newCall_enumerate_1 _) (fun obj => F.args_object_init_2 obj _) F.entry_enumerate_new (bornE B) ⟨h1, ?_⟩
  show _ ∧ _
  rw [hz]
  exact ⟨⟨_, he, rfl⟩, h _ he (Heap.get?_push_of_some _ (Heap.get?_push_size _ B.free)) fun b o x => Heap.get?_push_of_some _ (Heap.get?_push_of_some _ x)⟩
end
theorem goE {X : Cx} {pins : List (Addr × Obj)} {σ : L2.St} {H : Hp} {s : Shared} {elts : List Expr} {kk : Nat} {tpos : Pos} {R : It → Hp → Prop} {k : Kd} {k0 : Int} {a : Addr} {h' : Heap} (I : Inv X pins σ H s) (la : a < s.heap.objs.size)
    (he : IsEnum h' (s.heap.objs.size + 1) s.heap.objs.size k0 .none) (hi : h'.get? s.heap.objs.size = some (k.io a)) (hk : ∀ b o, s.heap.get? b = some o → h'.get? b = some o) (q : R (ItE k k0 X.K a) H) :
    PIE X pins σ (.Tuple elts kk tpos) R (.ref (s.heap.objs.size + 1)) { s with heap := h' } := by
  refine ⟨s.heap.objs.size + 1, [s.heap.objs.size + 1, s.heap.objs.size], _, _, H, rfl, I.kept (t' := s.toks) hk, turnE k k0 a (s.heap.objs.size + 1) s.heap.objs.size, ⟨⟨.none, by simpa using he⟩, Kd.it0 hi, Nat.succ_ne_self _, Nat.ne_of_lt la, Nat.ne_of_lt (Nat.lt_succ_of_lt la)⟩, fun b hb => ?_, q⟩
  have hle : s.heap.objs.size ≤ b := by
    simp only [List.mem_cons, List.not_mem_nil, or_false] at hb
    rcases hb with rfl | rfl
    · exact Nat.le_add_right _ _
    · exact Nat.le_refl _
  exact I.fpOk hle (I.hok.fresh hle)
def iEnumE (K : PySem.W.Frag) (ta : TA) : TI := fun σ H R => ta σ H fun vs H1 => ∃ (k : Kd) (a : Addr) (xs : List V), vs = [.ref a] ∧ k.vs K H1 a xs ∧ R (ItE k 0 K a) H1
theorem pi_enumE {X : Cx} {e : Expr} {ta : TA} {p pos tpos : Pos} {elts : List Expr} {kk : Nat} (hg : Gl X "enumerate") (hm : X.mg "enumerate" = none) (ha : PA X [e] ta) (hs : starEach [e] X.env = [(false, eval e X.env)] := by rfl) :
    PI X (.Tuple elts kk tpos) (.Call (.Name "enumerate" p) [e] [] pos) (iEnumE X.K ta) := by
  refine ⟨fun pins s σ H R I h => Call_ (ld_blt I hg hm boot_enumerate (PyProof.Rows.callWith_type1 (thn (ha.run pos pins s σ H _ I h) fun us s1 ⟨vs, H1, I1, r1, q1⟩ => ?_) hs rfl))⟩
  obtain ⟨k, a, xs, rfl, hq, q⟩ := q1
  cases r1 with
  | cons r rr =>
    cases rr
    cases r
    obtain ⟨its, rv, p', la⟩ := Kd.row I1 hq
    exact madeE (k.beg a its.toArray) p' fun h' he hi hk => wpAny_pyIter_enum he (goE I1 la he hi hk q)
/-- enumerate(xs, k0) -/
def iEnumF (K : PySem.W.Frag) (ta : TA) : TI := fun σ H R => ta σ H fun vs H1 => ∃ (k : Kd) (a : Addr) (xs : List V) (k0 : Int), vs = [.ref a, .int k0] ∧ (0 ≤ k0 ∧ k0 < 1000) ∧ k.vs K H1 a xs ∧ R (ItE k k0 K a) H1
theorem pi_enumF {X : Cx} {e e2 : Expr} {ta : TA} {p pos tpos : Pos} {elts : List Expr} {kk : Nat} (hg : Gl X "enumerate") (hm : X.mg "enumerate" = none) (ha : PA X [e, e2] ta) (hs : starEach [e, e2] X.env = (false, eval e X.env) :: starEach [e2] X.env := by rfl) (hpl : (backTo pos (starEach [e2] X.env)).any (·.1) = false := by rfl) :
    PI X (.Tuple elts kk tpos) (.Call (.Name "enumerate" p) [e, e2] [] pos) (iEnumF X.K ta) := by
  refine ⟨fun pins s σ H R I h => Call_ (ld_blt I hg hm boot_enumerate (PyProof.Rows.callWith_type1 (thn (ha.run pos pins s σ H _ I h) fun us s1 ⟨vs, H1, I1, r1, q1⟩ => ?_) hs hpl))⟩
  obtain ⟨k, a, xs, k0, rfl, hb, hq, q⟩ := q1
  cases r1 with
  | cons r rr =>
    cases rr with
    | cons r' rr =>
      cases rr
      cases r
      obtain ⟨t, rfl⟩ := id r'
      obtain ⟨its, rv, p', la⟩ := Kd.row I1 hq
      exact enum_begins (k.beg a its.toArray) p' (by omega) (by omega) fun h' he hi _ hk => wpAny_pyIter_enum he (goE I1 la he hi hk q)
theorem walkE {K : PySem.W.Frag} {k : Kd} {k0 : Int} {a : Addr} {xs : List V} : Walk (ItE k k0 K a) xs.length (fun H => k.vs K H a xs) (YPair (fun i => some (.int (k0 + (i : Nat)))) (fun i => xs[i]?)) := by
  refine ⟨fun i _ hi q => ⟨xs, xs[i], q, by simp [hi]⟩, fun _ q => ⟨xs, q, rfl⟩, fun i H v H' _ q y => ?_⟩
  obtain ⟨T, x, h1, h2, h3, h4⟩ := y
  exact ⟨T, .int (k0 + (i : Nat)), x, h1, h2, h3, rfl, h4 xs q⟩
theorem walkZ {K : PySem.W.Frag} {k1 k2 : Kd} {a b : Addr} {xs ys : List V} {n : Nat} (hn : n = min xs.length ys.length) : Walk (It2 k1 k2 K a b) n (fun H => k1.vs K H a xs ∧ k2.vs K H b ys) (YPair (fun i => xs[i]?) (fun i => ys[i]?)) := by
  subst hn
  refine ⟨fun i _ hi q => ?_, fun _ q => ⟨xs, ys, q.1, q.2, by omega⟩, fun i H v H' _ q y => ?_⟩
  · have h1 : i < xs.length := by omega
    have h2 : i < ys.length := by omega
    exact ⟨xs, ys, xs[i], ys[i], q.1, q.2, List.getElem?_eq_getElem h1, List.getElem?_eq_getElem h2⟩
  · obtain ⟨T, x, z, e1, e2, e3, e4, e5⟩ := y
    exact ⟨T, x, z, e1, e2, e3, e4 xs q.1, e5 ys q.2⟩
end ZM

namespace OZ
open PySem L2 PySem.Spec PyProof.Rows ZM
/-! enumerate, zip over lists and tuples -/
def EnuD (KI : List Da → Nat → Prop) : Da → Nat → Prop
  | .lst ds, m => KI ds m
  | .tup ds, m => KI ds m
  | _, _ => False
theorem enud_lst {KI : List Da → Nat → Prop} {ds : List Da} {m : Nat} (h : KI ds m) : EnuD KI (.lst ds) m := h
theorem enud_tup {KI : List Da → Nat → Prop} {ds : List Da} {m : Nat} (h : KI ds m) : EnuD KI (.tup ds) m := h
theorem walkd_enumE {M : Mode} {K : PySem.W.Frag} {G1 : Hp} {k : Kd} {n : Nat} {a : Addr} {vs : List V} {ds : List Da} (q : ∀ G H m, Same G1 G → Ok M G H G H m → k.vs K H a vs) (r : Reps K G1 vs ds) : WalkD M K (ItE k (n : Int) K a) (enums n ds) G1 := by
  refine ⟨_, _, by rw [enums_len, ← r.length]; exact walkE (K := K) (k := k) (k0 := (n : Int)) (a := a) (xs := vs), fun G H m le ok => q G H m le ok, fun i H x H' G m hi y le ok => ?_⟩
  obtain ⟨T, x1, y1, rfl, hT, rfl, e1, e2⟩ := y
  obtain ⟨d, hd, rd⟩ := r.get' e2
  cases e1
  have al := ok.alloc (o := .tup [V.int ((n : Int) + (i : Nat)), y1]) hT
  refine ⟨_, .tup [.int ((n : Int) + (i : Int)), d], al, ?_, .tup (sq_t upd_same) (.cons (.int _) (.cons ((rd.mono le).mono al.le) .nil))⟩
  rw [enums_at, hd]
  simp
section
variable {M : Mode} {X : Cx} {KE : Kx} {e e2 : Expr} {sl : List Sl} {KI : List Da → Nat → Prop} {m : Nat} {pos p tpos : Pos} {N : List Str} {sc : Scope} {B : Bd}
theorem enud_rep {K : PySem.W.Frag} {G1 : Hp} {d : Da} {v : V} {KI : List Da → Nat → Prop} {m : Nat} (h : EnuD KI d m) (r : Rep K G1 v d) : ∃ (k : Kd) (a : Addr) (vs : List V) (ds : List Da), v = .ref a ∧ (∀ {M : Mode} (G H : Hp) (m : Nat), Same G1 G → Ok M G H G H m → k.vs K H a vs) ∧ Reps K G1 vs ds ∧ KI ds m := by
  cases r with
  | @lst a vs ds q r => exact ⟨.l, a, vs, ds, rfl, fun G H m le ok => sq_l (ok.sub _ _ (le _ _ q)), r, h⟩
  | @tup a vs ds q r => exact ⟨.t, a, vs, ds, rfl, fun G H m le ok => sqT_same (le.trans ok.sub) q, r, h⟩
  | _ => exact h.elim
theorem iter_enumE {elts : List Expr} {kk : Nat} (cx : Ctx X N sc B) (hm : B.mg "enumerate" = none) (h : EvD M X KE e sl (EnuD fun ds m1 => KI (enums 0 ds) m1) m) (hg : GlS sc "enumerate" := by with_unfolding_all rfl)
    (he : starEach [e] X.env = (false, eval e X.env) :: starEach [] X.env := by with_unfolding_all rfl) : IterD M X KE (.Tuple elts kk tpos) (.Call (.Name "enumerate" p) [e] [] pos) sl KI m := fun G0 H0 G H σ W R ok so wi k =>
  wpI.of (pi_enumE (cx.gl hg) (cx.mg hm) (pa_cons pe_wp pa_nil he) (hs := by rw [he]; rfl)) (h G0 H0 G H σ W _ ok so wi fun v d m' G' H' p o r => by
    obtain ⟨kd, a, vs, ds, rfl, q, t, kk⟩ := enud_rep p r
    exact ⟨kd, a, vs, rfl, q (M := M) G' H' m' (Same.refl _) o.here, k _ _ m' G' H' kk o (walkd_enumE (n := 0) q t)⟩)
theorem iter_enumF {elts : List Expr} {kk : Nat} (cx : Ctx X N sc B) (hm : B.mg "enumerate" = none) (h : EvD M X KE e sl (fun d m0 => EvD M X KE e2 sl (fun y m1 => ∃ n : Nat, y = .int n ∧ n < 1000 ∧ EnuD (fun ds m1 => KI (enums n ds) m1) d m1) m0) m) (hg : GlS sc "enumerate" := by with_unfolding_all rfl)
    (he : starEach [e, e2] X.env = (false, eval e X.env) :: starEach [e2] X.env := by with_unfolding_all rfl) (he2 : starEach [e2] X.env = (false, eval e2 X.env) :: starEach [] X.env := by with_unfolding_all rfl) : IterD M X KE (.Tuple elts kk tpos) (.Call (.Name "enumerate" p) [e, e2] [] pos) sl KI m := fun G0 H0 G H σ W R ok so wi k =>
  wpI.of (pi_enumF (cx.gl hg) (cx.mg hm) (pa_cons pe_wp (pa_cons pe_wp pa_nil he2) he) (hs := by rw [he]) (hpl := by rw [he2]; rfl)) (h G0 H0 G H σ W _ ok so wi fun v d m' G' H' p o r =>
    p G0 H0 G' H' σ W _ (ok.trans o) (so.step o) (wi.step o) fun v2 d2 m2 G2 H2 p2 o2 r2 => by
    obtain ⟨n, rfl, hn, p2⟩ := p2
    obtain ⟨kd, a, vs, ds, rfl, q, t, kk⟩ := enud_rep p2 (r.mono o2.le)
    exact ⟨kd, a, vs, (n : Int), by rw [r2.int_inv], by omega, q (M := M) G2 H2 m2 (Same.refl _) (o.trans o2).here, k _ _ m2 G2 H2 kk (o.trans o2) (walkd_enumE (n := n) q t)⟩)
/-- pairs of two rows -/
def zipsD (xs ys : List Da) : List Da := (xs.zip ys).map fun e => .tup [e.1, e.2]
theorem walkd_zipE {K : PySem.W.Frag} {G1 : Hp} {k1 k2 : Kd} {a b : Addr} {us vs : List V} {xs ys : List Da} (q1 : ∀ G H m, Same G1 G → Ok M G H G H m → k1.vs K H a us) (q2 : ∀ G H m, Same G1 G → Ok M G H G H m → k2.vs K H b vs) (r1 : Reps K G1 us xs) (r2 : Reps K G1 vs ys) : WalkD M K (It2 k1 k2 K a b) (zipsD xs ys) G1 := by
  refine ⟨_, _, walkZ (K := K) (k1 := k1) (k2 := k2) (a := a) (b := b) (xs := us) (ys := vs) (by unfold zipsD; rw [List.length_map, List.length_zip, r1.length, r2.length]), fun G H m le ok => ⟨q1 G H m le ok, q2 G H m le ok⟩, fun i H x H' G m hi y le ok => ?_⟩
  obtain ⟨T, x1, y1, rfl, hT, rfl, e1, e2⟩ := y
  obtain ⟨d1, hd1, rd1⟩ := r1.get' e1
  obtain ⟨d2, hd2, rd2⟩ := r2.get' e2
  have al := ok.alloc (o := .tup [x1, y1]) hT
  refine ⟨_, .tup [d1, d2], al, ?_, .tup (sq_t upd_same) (.cons ((rd1.mono le).mono al.le) (.cons ((rd2.mono le).mono al.le) .nil))⟩
  unfold zipsD
  rw [List.getElem?_map, (List.getElem?_zip_eq_some (z := (d1, d2))).mpr ⟨hd1, hd2⟩]
  rfl
theorem iter_zipE {elts : List Expr} {kk : Nat} (cx : Ctx X N sc B) (hm : B.mg "zip" = none) (h : EvD M X KE e sl (fun d m0 => EvD M X KE e2 sl (fun y m1 => EnuD (fun xs m2 => EnuD (fun ys m3 => KI (zipsD xs ys) m3) y m2) d m1) m0) m) (hg : GlS sc "zip" := by with_unfolding_all rfl)
    (he : starEach [e, e2] X.env = (false, eval e X.env) :: starEach [e2] X.env := by with_unfolding_all rfl) (he2 : starEach [e2] X.env = (false, eval e2 X.env) :: starEach [] X.env := by with_unfolding_all rfl) : IterD M X KE (.Tuple elts kk tpos) (.Call (.Name "zip" p) [e, e2] [] pos) sl KI m := fun G0 H0 G H σ W R ok so wi k =>
  wpI.of (pi_zip2 (cx.gl hg) (cx.mg hm) (pa_cons pe_wp (pa_cons pe_wp pa_nil he2) he) (hs := by rw [he]) (hpl := by rw [he2]; rfl)) (h G0 H0 G H σ W _ ok so wi fun v d m' G' H' p o r =>
    p G0 H0 G' H' σ W _ (ok.trans o) (so.step o) (wi.step o) fun v2 d2 m2 G2 H2 p2 o2 r2 => by
    obtain ⟨k1, a, us, xs, rfl, q1, t1, p3⟩ := enud_rep p2 (r.mono o2.le)
    obtain ⟨k2, b, vs, ys, rfl, q2, t2, p4⟩ := enud_rep p3 r2
    exact ⟨k1, k2, a, b, us, vs, rfl, q1 (M := M) G2 H2 m2 (Same.refl _) (o.trans o2).here, q2 (M := M) G2 H2 m2 (Same.refl _) (o.trans o2).here, k _ _ m2 G2 H2 p4 (o.trans o2) (walkd_zipE q1 q2 t1 t2)⟩)
end
end OZ
namespace OZ
open PySem L2 PySem.Spec PyProof.Rows
/-! a list or a tuple -/
def sqd (t : Bool) (ds : List Da) : Da := if t then .tup ds else .lst ds
theorem seqd_sqd {KI : List Da → Nat → Prop} {t : Bool} {ds : List Da} {m : Nat} (h : KI ds m) : SeqD KI (sqd t ds) m := by cases t <;> exact h
theorem enud_sqd {KI : List Da → Nat → Prop} {t : Bool} {ds : List Da} {m : Nat} (h : KI ds m) : EnuD KI (sqd t ds) m := by cases t <;> exact h
section
variable {M : Mode} {X : Cx} {KE : Kx} {P : Da → Nat → Prop} {m : Nat} {t : Bool} {ls : List Da}
theorem cd_lenQ (k : P (.int ls.length) m) : CallD M X KE (.builtin "len") [sqd t ls] P m := by
  cases t
  · exact cd_lenL k
  · exact cd_lenT k
theorem cd_tupQ (k : P (.tup ls) m) : CallD M X KE (.type "tuple") [sqd t ls] P m := by
  cases t
  · exact cd_tupL k
  · exact cd_tupT k
theorem cd_lstQ (k : P (.lst ls) m) : CallD M X KE (.type "list") [sqd t ls] P m := by
  cases t
  · exact cd_lstL k
  · exact cd_lstT k
theorem sld_sqd {i : Int} (h0 : 0 ≤ i) (h1 : i < (ls.length : Int)) (h : P (sqd t (ls.take i.toNat)) m) : SlD (sqd t ls) none (some i) P m := by
  cases t
  · exact sld_lst' (cutD_to h0) h
  · refine sld_tup' (fun z => ?_) (cutD_to h0) h
    have := z.2
    simp only [HT.sIx] at this
    rw [if_neg (by omega)] at this
    omega
theorem opd_inQ {x : Da} (h : flD x = true) (h2 : ls.all flD = true) (k : P (.bl (inD x ls)) m) : OpD M X KE (compareOp .In) x (sqd t ls) P m := by
  cases t
  · exact opd_inL h h2 k
  · exact opd_inT h h2 k
theorem opd_ninQ {x : Da} (h : flD x = true) (h2 : ls.all flD = true) (k : P (.bl (!inD x ls)) m) : OpD M X KE (compareOp .NotIn) x (sqd t ls) P m := by
  cases t
  · exact opd_ninL h h2 k
  · exact opd_ninT h h2 k
end
end OZ

namespace OZ
open PySem L2 PySem.Spec PyProof.Rows
/-! typed loops and comprehensions; gcd, // by any number -/
def CDivZ : Int → Int → Prop := fun _ j => j ≠ 0 ∧ j.natAbs.log2 < 9000
theorem op_fdivZ {X : Cx} : OpR X (binaryOp .FloorDiv) (rI CDivZ fun i j => V.int (i.fdiv j)) :=
  opI fun i j t u s Q E hc q => PyProof.Rows.floordiv_int hc.1 q (Or.inl (PyProof.noPylong_of_log2 hc.2))
theorem cdivZ {i j : Int} {b : Nat} (h : j ≠ 0) (hb : j.natAbs < 2 ^ b) (h0 : 0 < b) (h9 : b ≤ 9000) : CDivZ i j := ⟨h, Nat.lt_of_lt_of_le (Flt.log2_lt_of h0 hb) h9⟩
section
variable {M : Mode} {X : Cx} {KE : Kx} {P : Da → Nat → Prop} {m : Nat} {i j : Int}
theorem opd_fdivX (c : CDivZ i j) (k : P (.int (i.fdiv j)) m) : OpD M X KE (binaryOp .FloorDiv) (.int i) (.int j) P m := .of op_fdivZ fun G H _ _ _ ok r1 r2 po => ⟨i, j, r1.int_inv, r2.int_inv, c, po _ _ m G H k ok (.int _)⟩
end
section
variable {α : Type} {M : Mode} {X : Cx} {KE : Ks} {N : List Str} {sc : Scope} {x y : Str} {p p1 p2 tp : Pos} {kk : Nat} {st : List Stmt} {B : Bd} {D : Kn} {sl : List Sl} {m : Nat}
/-- for x in xs.map g -/
theorem for_invL {i : Nat} (g : α → Da) {xs : List α} (cx : Ctx X N sc B) (I : Nat → List Sl → Nat → Prop) (hi : IdxAt N x i) (h0 : I 0 sl m) (hN : ∀ n sl m, I n sl m → sl.length = N.length)
    (h : ∀ j a sl m, xs[j]? = some a → j < xs.length → xs.take (j + 1) = xs.take j ++ [a] → I j sl m → StD M X KE st (sl.set i (.v (g a))) { D with nx := I (j + 1), ct := I (j + 1), bk := D.nx } m) (k : ∀ sl m, I xs.length sl m → D.nx sl m) (hl : Loc sc x := by with_unfolding_all first | exact Or.inl rfl | exact Or.inr rfl) (hf : X.fn x = true ∨ X.env.scope.names.lookup x = some .local := by with_unfolding_all first | exact Or.inl rfl | exact Or.inr rfl) : ForD (fun d sl D m => ∃ sl' is, Tg X N sc (.Name x p) d sl sl' is ∧ StD M X KE st sl' D m) D (xs.map g) sl m :=
  for_inv cx I hi h0 hN (fun j d sl m e q => by
    rw [List.getElem?_map] at e
    cases ha : xs[j]? with
    | none => rw [ha] at e; cases e
    | some a =>
      rw [ha] at e
      cases e
      exact h j a sl m ha (List.getElem?_eq_some_iff.mp ha).1 (by rw [List.take_succ, ha]; rfl) q) (fun sl m q => k sl m (by rwa [List.length_map] at q)) hl hf
/-- for x in range(n) -/
theorem for_invN {i : Nat} {n : Int} (cx : Ctx X N sc B) (I : Nat → List Sl → Nat → Prop) (hi : IdxAt N x i) (h0 : I 0 sl m) (hN : ∀ n sl m, I n sl m → sl.length = N.length)
    (h : ∀ (j : Nat) sl m, (j : Int) < n → j < n.toNat → I j sl m → StD M X KE st (sl.set i (.v (.int j))) { D with nx := I (j + 1), ct := I (j + 1), bk := D.nx } m) (k : ∀ sl m, I n.toNat sl m → D.nx sl m) (hl : Loc sc x := by with_unfolding_all first | exact Or.inl rfl | exact Or.inr rfl) (hf : X.fn x = true ∨ X.env.scope.names.lookup x = some .local := by with_unfolding_all first | exact Or.inl rfl | exact Or.inr rfl) : ForD (fun d sl D m => ∃ sl' is, Tg X N sc (.Name x p) d sl sl' is ∧ StD M X KE st sl' D m) D (intsD 0 n.toNat) sl m :=
  for_inv cx I hi h0 hN (fun j d sl m e q => by
    obtain ⟨h1, rfl⟩ := intsD_get e
    rw [show (0 + (j : Int)) = (j : Int) by omega]
    exact h j sl m h1 (by omega) q) (fun sl m q => k sl m (by rwa [intsD_len] at q)) hl hf
/-- for x, y in xs.map .. -/
theorem for_inv2L {i1 i2 : Nat} (g1 g2 : α → Da) {xs : List α} (cx : Ctx X N sc B) (I : Nat → List Sl → Nat → Prop) (hi1 : IdxAt N x i1) (hi2 : IdxAt N y i2) (h0 : I 0 sl m) (hN : ∀ n sl m, I n sl m → sl.length = N.length)
    (h : ∀ j a sl m, xs[j]? = some a → j < xs.length → xs.take (j + 1) = xs.take j ++ [a] → I j sl m → StD M X KE st ((sl.set i1 (.v (g1 a))).set i2 (.v (g2 a))) { D with nx := I (j + 1), ct := I (j + 1), bk := D.nx } m) (k : ∀ sl m, I xs.length sl m → D.nx sl m)
    (hl1 : Loc sc x := by with_unfolding_all first | exact Or.inl rfl | exact Or.inr rfl) (hl2 : Loc sc y := by with_unfolding_all first | exact Or.inl rfl | exact Or.inr rfl) (hf1 : X.fn x = true ∨ X.env.scope.names.lookup x = some .local := by with_unfolding_all first | exact Or.inl rfl | exact Or.inr rfl) (hf2 : X.fn y = true ∨ X.env.scope.names.lookup y = some .local := by with_unfolding_all first | exact Or.inl rfl | exact Or.inr rfl) :
    ForD (fun d sl D m => ∃ sl' is, Tg X N sc (.Tuple [.Name x p1, .Name y p2] kk tp) d sl sl' is ∧ StD M X KE st sl' D m) D (xs.map fun a => .tup [g1 a, g2 a]) sl m :=
  for_inv2 cx I hi1 hi2 h0 hN (fun j d sl m e q => by
    rw [List.getElem?_map] at e
    cases ha : xs[j]? with
    | none => rw [ha] at e; cases e
    | some a =>
      rw [ha] at e
      cases e
      exact ⟨_, _, rfl, h j a sl m ha (List.getElem?_eq_some_iff.mp ha).1 (by rw [List.take_succ, ha]; rfl) q⟩) (fun sl m q => k sl m (by rwa [List.length_map] at q)) hl1 hl2 hf1 hf2
end
section
variable {α : Type} {M : Mode} {X : Cx} {scope : Scope} {N : List Str} {sc : Scope} {B : Bd} {j : Nat} {vs : List Nat} {elt c : Expr} {sl : List Sl} {m : Nat} {x y : Str} {p p1 p2 tp : Pos} {kk : Nat}
/-- a target of the block: a local, or a cell of the block's own -/
def LocB (scope sc : Scope) (x : Str) : Prop := (relabelS scope sc).names.lookup x = some .local ∨ ((relabelS scope sc).names.lookup x = some .cell ∧ (scope.names.lookup x == some .cell) = true)
theorem LocB.loc {scope sc : Scope} {x : Str} (h : LocB scope sc x) : Loc (relabelS scope sc) x := h.elim (fun h => .inl h) fun h => .inr h.1
theorem LocB.fn {scope : Scope} {x : Str} {s : Shared} {H : Hp} {cenv : Env} {fp : List Addr} (h : LocB scope sc x) (cx : Ctx (X.blk s H scope cenv fp) N (relabelS scope sc) B) : (X.blk s H scope cenv fp).fn x = true ∨ (X.blk s H scope cenv fp).env.scope.names.lookup x = some .local :=
  h.elim (fun h => .inr (by rw [cx.s]; exact h)) fun h => .inl h.2
theorem lcstep_one {i : Nat} {d : Da} {k : Option Da → Nat → Prop} (hi : IdxAt N x i) (hN : sl.length = N.length) (hv : i ∈ vs) (h : AllX X scope N sc B j fun X' => EvD M X' K0 elt (sl.set i (.v d)) (fun y m2 => k (some y) m2) m) (hl : LocB scope sc x) : lcStep M X scope N sc B j vs (.Name x p) [] elt sl d k m :=
  ⟨_, [i], fun s H C cl fp cx hr => .name (.of hi hN) hl.loc (hl.fn cx), fun a ha => (by rw [List.mem_singleton.mp ha]; exact hv), h⟩
theorem lcstep_oneIf {c : Expr} {i : Nat} {d : Da} {k : Option Da → Nat → Prop} (hi : IdxAt N x i) (hN : sl.length = N.length) (hv : i ∈ vs)
    (h : AllX X scope N sc B j fun X' => EvT M X' K0 c (sl.set i (.v d)) (fun b m1 => if b = true then AllX X scope N sc B j fun X' => EvD M X' K0 elt (sl.set i (.v d)) (fun y m2 => k (some y) m2) m1 else k none m1) m) (hl : LocB scope sc x) : lcStep M X scope N sc B j vs (.Name x p) [c] elt sl d k m :=
  ⟨_, [i], fun s H C cl fp cx hr => .name (.of hi hN) hl.loc (hl.fn cx), fun a ha => (by rw [List.mem_singleton.mp ha]; exact hv), h⟩
theorem tg_two {i1 i2 : Nat} {a b : Da} (hi1 : IdxAt N x i1) (hi2 : IdxAt N y i2) (hN : sl.length = N.length) (hl1 : LocB scope sc x) (hl2 : LocB scope sc y) : AllX X scope N sc B j fun X' => Tg X' N (relabelS scope sc) (.Tuple [.Name x p1, .Name y p2] kk tp) (.tup [a, b]) sl ((sl.set i1 (.v a)).set i2 (.v b)) ([i1] ++ [i2]) :=
  fun s H C cl fp cx hr => .two (.name (.of hi1 hN) hl1.loc (hl1.fn cx)) (.name (.of hi2 (by rw [List.length_set]; exact hN)) hl2.loc (hl2.fn cx))
theorem two_in {i1 i2 : Nat} (hv1 : i1 ∈ vs) (hv2 : i2 ∈ vs) : ∀ i ∈ [i1] ++ [i2], i ∈ vs := fun a ha => by
  rcases List.mem_cons.mp ha with z | z
  · rw [z]; exact hv1
  · rw [List.mem_singleton.mp z]; exact hv2
theorem lcstep_two {i1 i2 : Nat} {a b : Da} {k : Option Da → Nat → Prop} (hi1 : IdxAt N x i1) (hi2 : IdxAt N y i2) (hN : sl.length = N.length) (hv1 : i1 ∈ vs) (hv2 : i2 ∈ vs) (h : AllX X scope N sc B j fun X' => EvD M X' K0 elt ((sl.set i1 (.v a)).set i2 (.v b)) (fun y m2 => k (some y) m2) m)
    (hl1 : LocB scope sc x) (hl2 : LocB scope sc y) : lcStep M X scope N sc B j vs (.Tuple [.Name x p1, .Name y p2] kk tp) [] elt sl (.tup [a, b]) k m :=
  ⟨_, _, tg_two hi1 hi2 hN hl1 hl2, two_in hv1 hv2, h⟩
theorem lcstep_twoIf {c : Expr} {i1 i2 : Nat} {a b : Da} {k : Option Da → Nat → Prop} (hi1 : IdxAt N x i1) (hi2 : IdxAt N y i2) (hN : sl.length = N.length) (hv1 : i1 ∈ vs) (hv2 : i2 ∈ vs)
    (h : AllX X scope N sc B j fun X' => EvT M X' K0 c ((sl.set i1 (.v a)).set i2 (.v b)) (fun t m1 => if t = true then AllX X scope N sc B j fun X' => EvD M X' K0 elt ((sl.set i1 (.v a)).set i2 (.v b)) (fun y m2 => k (some y) m2) m1 else k none m1) m)
    (hl1 : LocB scope sc x) (hl2 : LocB scope sc y) : lcStep M X scope N sc B j vs (.Tuple [.Name x p1, .Name y p2] kk tp) [c] elt sl (.tup [a, b]) k m :=
  ⟨_, _, tg_two hi1 hi2 hN hl1 hl2, two_in hv1 hv2, h⟩
theorem map_get {β : Type} {g : α → β} {xs : List α} {n : Nat} {d : β} (e : (xs.map g)[n]? = some d) : ∃ a, xs[n]? = some a ∧ d = g a ∧ n < xs.length ∧ xs.take (n + 1) = xs.take n ++ [a] := by
  rw [List.getElem?_map] at e
  cases ha : xs[n]? with
  | none => rw [ha] at e; cases e
  | some a =>
    rw [ha] at e
    cases e
    exact ⟨a, rfl, rfl, (List.getElem?_eq_some_iff.mp ha).1, by rw [List.take_succ, ha]; rfl⟩
/-- [elt for x in xs.map g], no drawing -/
theorem compd_mapB {i : Nat} (g f : α → Da) {xs : List α} {K : List Da → Nat → Prop} (hi : IdxAt N x i) (hN : sl.length = N.length) (hv : i ∈ vs) (h : ∀ a ∈ xs, ∀ (P : Da → Nat → Prop), P (f a) m → AllX X scope N sc B j fun X' => EvD M X' K0 elt (sl.set i (.v (g a))) P m) (k : K (xs.map f) m)
    (hl : LocB scope sc x := by with_unfolding_all first | exact Or.inl rfl | exact Or.inr ⟨rfl, rfl⟩) : CompD (lcStep M X scope N sc B j vs (.Name x p) [] elt sl) (xs.map g) K m := by
  refine compd_inv lcstep_mono (fun n acc m' => m' = m ∧ acc = (xs.take n).map f) ⟨rfl, rfl⟩ ?_ fun r m' ⟨e1, e2⟩ => by rw [e1, e2, List.length_map, List.take_length]; exact k
  rintro n d acc m' e ⟨rfl, rfl⟩
  obtain ⟨a, ha, rfl, _, tk⟩ := map_get e
  exact lcstep_one hi hN hv (h a (List.mem_of_getElem? ha) _ ⟨rfl, by rw [tk]; simp⟩) hl
/-- .. if c -/
theorem compd_filtB {i : Nat} (g : α → Da) (t : α → Bool) (f : α → Da) {xs : List α} {K : List Da → Nat → Prop} (hi : IdxAt N x i) (hN : sl.length = N.length) (hv : i ∈ vs)
    (h : ∀ a ∈ xs, ∀ (P : Bool → Nat → Prop), P (t a) m → AllX X scope N sc B j fun X' => EvT M X' K0 c (sl.set i (.v (g a))) P m)
    (h2 : ∀ a ∈ xs, t a = true → ∀ (P : Da → Nat → Prop), P (f a) m → AllX X scope N sc B j fun X' => EvD M X' K0 elt (sl.set i (.v (g a))) P m) (k : K ((xs.filter t).map f) m)
    (hl : LocB scope sc x := by with_unfolding_all first | exact Or.inl rfl | exact Or.inr ⟨rfl, rfl⟩) : CompD (lcStep M X scope N sc B j vs (.Name x p) [c] elt sl) (xs.map g) K m := by
  refine compd_inv lcstep_mono (fun n acc m' => m' = m ∧ acc = ((xs.take n).filter t).map f) ⟨rfl, rfl⟩ ?_ fun r m' ⟨e1, e2⟩ => by rw [e1, e2, List.length_map, List.take_length]; exact k
  rintro n d acc m' e ⟨rfl, rfl⟩
  obtain ⟨a, ha, rfl, _, tk⟩ := map_get e
  have hm := List.mem_of_getElem? ha
  refine lcstep_oneIf hi hN hv (h a hm _ ?_) hl
  cases q : t a with
  | true =>
    rw [if_pos rfl]
    refine h2 a hm q _ ⟨rfl, ?_⟩
    rw [tk, List.filter_append, List.map_append, List.filter_cons, q]
    rfl
  | false =>
    rw [if_neg Bool.false_ne_true]
    refine ⟨rfl, ?_⟩
    rw [tk, List.filter_append, List.map_append, List.filter_cons, q]
    rfl
/-- [elt for x, y in xs.map ..], no drawing -/
theorem compd_mapL2 {i1 i2 : Nat} (g1 g2 f : α → Da) {xs : List α} {K : List Da → Nat → Prop} (hi1 : IdxAt N x i1) (hi2 : IdxAt N y i2) (hN : sl.length = N.length) (hv1 : i1 ∈ vs) (hv2 : i2 ∈ vs)
    (h : ∀ a ∈ xs, ∀ (P : Da → Nat → Prop), P (f a) m → AllX X scope N sc B j fun X' => EvD M X' K0 elt ((sl.set i1 (.v (g1 a))).set i2 (.v (g2 a))) P m) (k : K (xs.map f) m)
    (hl1 : LocB scope sc x := by with_unfolding_all first | exact Or.inl rfl | exact Or.inr ⟨rfl, rfl⟩) (hl2 : LocB scope sc y := by with_unfolding_all first | exact Or.inl rfl | exact Or.inr ⟨rfl, rfl⟩) :
    CompD (lcStep M X scope N sc B j vs (.Tuple [.Name x p1, .Name y p2] kk tp) [] elt sl) (xs.map fun a => .tup [g1 a, g2 a]) K m := by
  refine compd_inv lcstep_mono (fun n acc m' => m' = m ∧ acc = (xs.take n).map f) ⟨rfl, rfl⟩ ?_ fun r m' ⟨e1, e2⟩ => by rw [e1, e2, List.length_map, List.take_length]; exact k
  rintro n d acc m' e ⟨rfl, rfl⟩
  obtain ⟨a, ha, rfl, _, tk⟩ := map_get e
  exact lcstep_two hi1 hi2 hN hv1 hv2 (h a (List.mem_of_getElem? ha) _ ⟨rfl, by rw [tk]; simp⟩) hl1 hl2
/-- .. if c -/
theorem compd_filtL2 {i1 i2 : Nat} (g1 g2 : α → Da) (t : α → Bool) (f : α → Da) {xs : List α} {K : List Da → Nat → Prop} (hi1 : IdxAt N x i1) (hi2 : IdxAt N y i2) (hN : sl.length = N.length) (hv1 : i1 ∈ vs) (hv2 : i2 ∈ vs)
    (h : ∀ a ∈ xs, ∀ (P : Bool → Nat → Prop), P (t a) m → AllX X scope N sc B j fun X' => EvT M X' K0 c ((sl.set i1 (.v (g1 a))).set i2 (.v (g2 a))) P m)
    (h2 : ∀ a ∈ xs, t a = true → ∀ (P : Da → Nat → Prop), P (f a) m → AllX X scope N sc B j fun X' => EvD M X' K0 elt ((sl.set i1 (.v (g1 a))).set i2 (.v (g2 a))) P m) (k : K ((xs.filter t).map f) m)
    (hl1 : LocB scope sc x := by with_unfolding_all first | exact Or.inl rfl | exact Or.inr ⟨rfl, rfl⟩) (hl2 : LocB scope sc y := by with_unfolding_all first | exact Or.inl rfl | exact Or.inr ⟨rfl, rfl⟩) :
    CompD (lcStep M X scope N sc B j vs (.Tuple [.Name x p1, .Name y p2] kk tp) [c] elt sl) (xs.map fun a => .tup [g1 a, g2 a]) K m := by
  refine compd_inv lcstep_mono (fun n acc m' => m' = m ∧ acc = ((xs.take n).filter t).map f) ⟨rfl, rfl⟩ ?_ fun r m' ⟨e1, e2⟩ => by rw [e1, e2, List.length_map, List.take_length]; exact k
  rintro n d acc m' e ⟨rfl, rfl⟩
  obtain ⟨a, ha, rfl, _, tk⟩ := map_get e
  have hm := List.mem_of_getElem? ha
  refine lcstep_twoIf hi1 hi2 hN hv1 hv2 (h a hm _ ?_) hl1 hl2
  cases q : t a with
  | true =>
    rw [if_pos rfl]
    refine h2 a hm q _ ⟨rfl, ?_⟩
    rw [tk, List.filter_append, List.map_append, List.filter_cons, q]
    rfl
  | false =>
    rw [if_neg Bool.false_ne_true]
    refine ⟨rfl, ?_⟩
    rw [tk, List.filter_append, List.map_append, List.filter_cons, q]
    rfl
/-- by an invariant (drawing) -/
theorem compd_allL {i : Nat} (g : α → Da) (I : Nat → List Da → Nat → Prop) {xs : List α} {K : List Da → Nat → Prop} (hi : IdxAt N x i) (hN : sl.length = N.length) (hv : i ∈ vs) (h0 : I 0 [] m)
    (h : ∀ n a acc m, xs[n]? = some a → n < xs.length → xs.take (n + 1) = xs.take n ++ [a] → I n acc m → AllX X scope N sc B j fun X' => EvD M X' K0 elt (sl.set i (.v (g a))) (fun y m1 => I (n + 1) (acc ++ [y]) m1) m) (k : ∀ r m, I xs.length r m → K r m)
    (hl : LocB scope sc x := by with_unfolding_all first | exact Or.inl rfl | exact Or.inr ⟨rfl, rfl⟩) : CompD (lcStep M X scope N sc B j vs (.Name x p) [] elt sl) (xs.map g) K m :=
  compd_inv lcstep_mono I h0 (fun n d acc m e q => by
    obtain ⟨a, ha, rfl, hl2, tk⟩ := map_get e
    exact lcstep_one hi hN hv (h n a acc m ha hl2 tk q) hl) (fun r m q => k r m (by rwa [List.length_map] at q))
/-- .. if c, by an invariant -/
theorem compd_allLIf {i : Nat} (g : α → Da) (I : Nat → List Da → Nat → Prop) {xs : List α} {K : List Da → Nat → Prop} (hi : IdxAt N x i) (hN : sl.length = N.length) (hv : i ∈ vs) (h0 : I 0 [] m)
    (h : ∀ n a acc m, xs[n]? = some a → n < xs.length → xs.take (n + 1) = xs.take n ++ [a] → I n acc m → AllX X scope N sc B j fun X' => EvT M X' K0 c (sl.set i (.v (g a))) (fun b m1 => if b = true then AllX X scope N sc B j fun X' => EvD M X' K0 elt (sl.set i (.v (g a))) (fun y m2 => I (n + 1) (acc ++ [y]) m2) m1 else I (n + 1) acc m1) m) (k : ∀ r m, I xs.length r m → K r m)
    (hl : LocB scope sc x := by with_unfolding_all first | exact Or.inl rfl | exact Or.inr ⟨rfl, rfl⟩) : CompD (lcStep M X scope N sc B j vs (.Name x p) [c] elt sl) (xs.map g) K m :=
  compd_inv lcstep_mono I h0 (fun n d acc m e q => by
    obtain ⟨a, ha, rfl, hl2, tk⟩ := map_get e
    refine lcstep_oneIf hi hN hv (fun s H C cl fp cx hr => evt_imp (h n a acc m ha hl2 tk q s H C cl fp cx hr) fun b m1 z => ?_) hl
    cases b with
    | true => rw [if_pos rfl] at z ⊢; exact z
    | false => rw [if_neg Bool.false_ne_true] at z ⊢; simpa using z) (fun r m q => k r m (by rwa [List.length_map] at q))
theorem intsD_map (n : Int) : intsD 0 n.toNat = (List.range n.toNat).map fun k : Nat => Da.int (k : Int) := by
  refine List.ext_getElem (by rw [intsD_len]; simp) fun i h1 h2 => ?_
  have h3 := intsD_get (n := n) (List.getElem?_eq_getElem h1)
  rw [h3.2, List.getElem_map, List.getElem_range]
  congr 1
  omega
/-- over a range, no drawing -/
theorem compd_mapN {i : Nat} {n : Int} (f : Nat → Da) {K : List Da → Nat → Prop} (hi : IdxAt N x i) (hN : sl.length = N.length) (hv : i ∈ vs) (h : ∀ k : Nat, (k : Int) < n → k < n.toNat → ∀ (P : Da → Nat → Prop), P (f k) m → AllX X scope N sc B j fun X' => EvD M X' K0 elt (sl.set i (.v (.int k))) P m)
    (k : K ((List.range n.toNat).map f) m) (hl : LocB scope sc x := by with_unfolding_all first | exact Or.inl rfl | exact Or.inr ⟨rfl, rfl⟩) : CompD (lcStep M X scope N sc B j vs (.Name x p) [] elt sl) (intsD 0 n.toNat) K m := by
  rw [intsD_map]
  exact compd_mapB (fun k : Nat => Da.int (k : Int)) f hi hN hv (fun a ha => h a (by have := List.mem_range.mp ha; omega) (List.mem_range.mp ha)) k hl
/-- over a range, drawing -/
theorem compd_allN {i : Nat} {n : Int} (I : Nat → List Da → Nat → Prop) {K : List Da → Nat → Prop} (hi : IdxAt N x i) (hN : sl.length = N.length) (hv : i ∈ vs) (h0 : I 0 [] m)
    (h : ∀ (k : Nat) acc m, (k : Int) < n → k < n.toNat → I k acc m → AllX X scope N sc B j fun X' => EvD M X' K0 elt (sl.set i (.v (.int k))) (fun y m1 => I (k + 1) (acc ++ [y]) m1) m) (k : ∀ r m, I n.toNat r m → K r m)
    (hl : LocB scope sc x := by with_unfolding_all first | exact Or.inl rfl | exact Or.inr ⟨rfl, rfl⟩) : CompD (lcStep M X scope N sc B j vs (.Name x p) [] elt sl) (intsD 0 n.toNat) K m := by
  rw [intsD_map]
  refine compd_allL (fun k : Nat => Da.int (k : Int)) I hi hN hv h0 (fun q a acc m e hq tk r => ?_) (fun r m q => k r m (by rwa [List.length_range] at q)) hl
  have := List.getElem?_range (show q < n.toNat by simpa using hq)
  rw [this] at e
  cases e
  rw [List.length_range] at hq
  exact h q acc m (by omega) hq r
end
theorem zipsD_map {α β : Type} (f : α → Da) (g : β → Da) : ∀ (xs : List α) (ys : List β), zipsD (xs.map f) (ys.map g) = (xs.zip ys).map fun e => .tup [f e.1, g e.2] := by
  intro xs ys
  unfold zipsD
  rw [List.zip_map, List.map_map]
  rfl
theorem enums_map {α : Type} (f : α → Da) : ∀ (n : Nat) (xs : List α), enums n (xs.map f) = (xs.zipIdx n).map fun e => Da.tup [.int (e.2 : Int), f e.1]
  | _, [] => rfl
  | n, x :: xs => by
    rw [List.map_cons, List.zipIdx_cons, List.map_cons, enums, enums_map f (n + 1) xs]
section
variable {M : Mode} {X : Cx} {KE : Kx} {a b : Expr} {sl : List Sl} {P : Da → Nat → Prop} {m : Nat} {pos : Pos}
theorem new_lst {M : Mode} {K : PySem.W.Frag} {G H G1 H1 : Hp} {m m1 : Nat} {vs : List V} {ds : List Da} {ad : Addr} (o : Ok M G H G1 H1 m1) (had : H1 ad = none) (r : Reps K G1 vs ds) : Ok M G H G1 (L2.upd H1 ad (.lst vs)) m1 ∧ New K M H G1 (L2.upd H1 ad (.lst vs)) ad (.lst ds) := by
  have al := o.here.allocM (o := .lst vs) had
  have gA : G1 ad = none := by
    cases e : G1 ad with
    | none => rfl
    | some u => rw [o.sub _ _ e] at had; cases had
  have nx : ¬ M.X H1 ad := fun z => by obtain ⟨u, e⟩ := M.there _ _ _ o.inv z; rw [had] at e; cases e
  exact ⟨o.trans al, gA, fresh0 o (.inl had), fun z => nx (X_keep o nx _ z), ⟨vs, upd_same, r⟩⟩
theorem evn_rep (h : EvD M X KE a sl (fun x m1 => EvD M X KE b sl (fun y m2 => ∃ xs k, x = .lst xs ∧ y = .int k ∧ -(2 ^ 63) ≤ k ∧ k < 2 ^ 63 ∧ xs.length * k.toNat ≤ sizeLine ∧ P (.lst (List.replicate k.toNat xs).flatten) m2) m1) m) : EvN M X KE (.BinOp a .Mult b pos) sl P m := fun G0 H0 G H σ W Q ok so wi po =>
  wpE.of (pe_op op_rep pe_wp pe_wp) (h G0 H0 G H σ W _ ok so wi fun v x m1 G1 H1 q1 o1 r1 => q1 G0 H0 G1 H1 σ W _ (ok.trans o1) (so.step o1) (wi.step o1) fun w y m2 G2 H2 ⟨xs, k, hx, hy, k0, k1, kl, p⟩ o2 r2 => by
    subst hx hy
    obtain ⟨ad, us, rfl, q, r⟩ := (r1.mono o2.le).lst_inv
    have o := o1.trans o2
    have fl : ∀ n : Nat, Reps X.K G2 (List.replicate n us).flatten (List.replicate n xs).flatten := by
      intro n
      induction n with
      | zero => exact .nil
      | succ n ih => rw [List.replicate_succ, List.replicate_succ, List.flatten_cons, List.flatten_cons]; exact r.append ih
    refine ⟨ad, k, us, rfl, r2.int_inv, o.sub _ _ q, k0, k1, by rw [r.length]; exact kl, fun z hz => ?_⟩
    obtain ⟨n1, n2⟩ := new_lst (m := m) o hz (fl k.toNat)
    exact po z _ m2 _ _ p n1 n2)
theorem evn_cat (h : EvD M X KE a sl (fun x m1 => EvD M X KE b sl (fun y m2 => ∃ xs ys, x = .lst xs ∧ y = .lst ys ∧ xs.length + ys.length ≤ sizeLine ∧ P (.lst (xs ++ ys)) m2) m1) m) : EvN M X KE (.BinOp a .Add b pos) sl P m := fun G0 H0 G H σ W Q ok so wi po =>
  wpE.of (pe_op op_cat pe_wp pe_wp) (h G0 H0 G H σ W _ ok so wi fun v x m1 G1 H1 q1 o1 r1 => q1 G0 H0 G1 H1 σ W _ (ok.trans o1) (so.step o1) (wi.step o1) fun w y m2 G2 H2 ⟨xs, ys, hx, hy, kl, p⟩ o2 r2 => by
    subst hx hy
    obtain ⟨ad, us, rfl, q, r⟩ := (r1.mono o2.le).lst_inv
    obtain ⟨bd, ws, rfl, q', r'⟩ := r2.lst_inv
    have o := o1.trans o2
    refine ⟨ad, bd, us, ws, rfl, rfl, o.sub _ _ q, o.sub _ _ q', by rw [r.length, r'.length]; exact kl, fun z hz => ?_⟩
    obtain ⟨n1, n2⟩ := new_lst (m := m) o hz (r.append r')
    exact po z _ m2 _ _ p n1 n2)
end
/-- at a suite's end the own object of this slot is known from now on -/
def PubHint (_ : Nat) : Prop := True
theorem std_pubH {M : Mode} {X : Cx} {KE : Ks} {sl : List Sl} {D : Kn} {m i : Nat} {q : Option Addr} {d : Da} (_ : PubHint i) (hi : sl[i]? = some (.mm q d)) (h : StD M X KE [] (sl.set i (.v d)) D m) : StD M X KE [] sl D m := std_pub hi h
end OZ

namespace OS
open PySem PySem.Spec PySem.Calls PyProof.Rows PySem.W
section
variable {prog : Program} {w : World} {A : Around} {E : Value → Shared → Prop} {s : Shared} {K : Frag} {x D : Addr} {ox od : Obj}
/-- e.__class__ of an error that has its own dict -/
theorem class_of_err {Q : Option Value → Shared → Prop} (hga : findIn K (.ref D) "__getattribute__" = some (some (.builtin "BaseException.__getattribute__"))) (hgt : findIn K (.ref D) "__getattr__" = some none) (hsub : subIn K (.ref D) (.type "BaseException") = some true)
    (hdct : hasDictIn K D = true) (ha : findIn K (.ref D) "__class__" = some (some (.builtin "object.__class__")))
    (hn : specialIn K (.builtin "object.__class__") "__get__" = some (some (.builtin "getset_descriptor.__get__"))) (htk : takesIn K (.builtin "object.__class__") = some true) (hm : mroIn K D (.type "object") = some true)
    (X : K.In s.heap) (I : InstAt s.heap x ox D (some od)) (h : Q (some (.ref D)) { s with toks := s.toks + 1 }) : wpAny (model prog w) A (getAttr? (.ref x) "__class__") Q E s := by
  have hf : findObj K D (some od) "__class__" = some (.bind (.builtin "getset_descriptor.__get__") (.builtin "object.__class__")) := findObj_data (by obtain ⟨cd, hc, _⟩ := any_some hdct; rw [hc]; rfl) ha hn htk
  obtain ⟨hp, g, d, t, os⟩ := s
  have L0 := I.type (M := model prog w)
  have L1 := looks_findIn (M := model prog w) X hga
  have L2 := looks_findIn (M := model prog w) X hgt
  have L3 := looks_find (M := model prog w) X I hf
  have sub : Looks (model prog w) hp (isInstance (.ref x) (.type "BaseException")) true := L0.andThen (looks_subIn X hsub)
  have hx0 : (false && onTheHeap (Value.builtin "BaseException.__getattribute__")) = false := rfl
  have hx2 : (Value.builtin "BaseException.__getattribute__" == Value.builtin "object.__getattribute__") = false := by decide +kernel
  have hx1 : (onTheHeap (Value.ref D) && Value.builtin "BaseException.__getattribute__" == Value.builtin "object.__getattribute__") = false := by rw [hx2]; rfl
  unfold getAttr? getAttrBy? getAttrBy
  refine wpAny_bind (wpAny_mkText (wpAny_bind (wpAny_attempt (wpAny_holding (wpAny_bind (L0.at (wpAny_bind (L1.at ?_))))))))
  show wpAny _ _ (if (onTheHeap (Value.ref D) && Value.builtin "BaseException.__getattribute__" == Value.builtin "object.__getattribute__") = true then _ else _) _ _ _
  rw [hx1, if_neg Bool.false_ne_true]
  unfold getAttrByItsOwn hookBefore
  refine wpAny_bind ?_
  rw [if_pos (show onTheHeap (Value.ref D) = true from rfl)]
  refine L2.at ?_
  refine wpAny_bind (wpAny_attempt (wpAny_holding ?_))
  unfold callGetattribute
  rw [hx0, if_neg Bool.false_ne_true]
  unfold boundAndCalled
  rw [PySem.F.excAttr_ValueError.ga.bind (.ref x)]
  refine wpAny_bind (wpAny_pure ?_)
  show wpAny _ _ (call (.builtin "BaseException.__getattribute__") [.ref x, .str "__class__" t]) _ _ _
  refine wpAny_call (codeAny_call_builtin PySem.F.excAttr_ValueError.ga.plain PySem.F.entry_bexc_ga ?_)
  refine @check_slot (model prog w) _ _ ⟨hp, g, d, t + 1, os⟩ "BaseException.__getattribute__" "BaseException" "__getattribute__" (.ref x) [.str "__class__" t] [] _ (by decide +kernel) (by decide +kernel) sub (PySem.F.args_bexc_ga (.ref x) (.str "__class__" t)) ?_
  unfold Builtin.«object.__getattribute__»
  refine wpAny_bind (wpAny_of_eq (a := ((Value.ref x : Value), [Value.str "__class__" t])) (by first | rfl | (simp only [slotArgs]; rfl)) ?_)
  refine wpAny_bind (wpAny_pure (wpAny_bind (L0.at (wpAny_bind (L3.at ?_)))))
  show wpAny _ _ (holding [Value.builtin "object.__class__"] (call (.builtin "getset_descriptor.__get__") [.builtin "object.__class__", .ref x, .ref D]) >>= ret) _ _ _
  refine wpAny_bind (wpAny_holding (wpAny_call (class_get (s := ⟨hp, g, d, t + 1, os⟩) (ox := ox) (od := some od) X I hm ?_)))
  refine wpAny_pure ?_
  show wpAny _ _ (handedOut (.ref D)) _ _ _
  rw [handedOut_of (v := .ref D) rfl]
  first
    | exact wpAny_pure (wpAny_pure h)
    | exact wpAny_pure h
    | exact wpAny_pure (wpAny_bind (wpAny_pure (wpAny_pure h)))
theorem kit_err (hga : findIn K (.ref D) "__getattribute__" = some (some (.builtin "BaseException.__getattribute__"))) (hgt : findIn K (.ref D) "__getattr__" = some none) (hsub : subIn K (.ref D) (.type "BaseException") = some true) (hdct : hasDictIn K D = true) (ha : findIn K (.ref D) "__class__" = some (some (.builtin "object.__class__")))
    (hn : specialIn K (.builtin "object.__class__") "__get__" = some (some (.builtin "getset_descriptor.__get__"))) (htk : takesIn K (.builtin "object.__class__") = some true) (hm : mroIn K D (.type "object") = some true) :
    KitX K (.ref x) (.ref D) (fun h => InstAt h x ox D (some od)) where
  ty := fun _ _ _ I => I.type
  it := fun _ _ X _ => by
    obtain ⟨cdD, hcD, _⟩ := any_some hdct
    unfold clsIn at hcD
    split at hcD
    · rename_i c' d' cd' sl' ho
      intro A' Q' E' s' k q
      unfold isType loadHead
      exact wpAny_bind (wpAny_loadPart (k _ _ (X _ _ ho)) (wpAny_pure q))
    · cases hcD
  ne := (handS_kitx_exc (x := x) (ox := ox) hga hgt hsub hdct ha hn htk hm).ne
  ca := fun X I k => class_of_err hga hgt hsub hdct ha hn htk hm X I k
end
end OS
namespace OS
open PySem L2 PySem.Spec PyProof.Rows
section
variable {X : Cx} {a D dd : Addr} {oe : Obj} {pn : List (Addr × Obj)}
def rIsEd (K : PySem.W.Frag) (cls : Value) (D a : Addr) (d : Option Addr) : List V → Hp → VK → Prop := fun xs H Q => ∃ (c : V) (cv : Value) (b : Bool), xs = [.ref a, c] ∧ cls = .ref D ∧ (∃ dd fs, d = some dd ∧ H dd = some (.xd fs)) ∧ (∀ u, RelV c u → u = cv) ∧ PySem.W.kitOne K (.ref D) cv = some b ∧ Q (.bl b) H
theorem call_isEd {cls : Value} {d : Option Addr} (C : ExcC X.K D) (hz : Zc cls d oe) (hf : ∃ vs, oe.data = .fields vs) : CallR (X.suite a ((a, oe) :: pn)) (.builtin "isinstance") (rIsEd X.K cls D a d) := by
  intro pins s σ H xs us Q I r h
  obtain ⟨c, cv, b, rfl, rfl, ⟨dd, fs, rfl, hd⟩, hcv, e, q⟩ := h
  cases r with
  | cons rx rr =>
    cases rr with
    | cons rt rr =>
      cases rr
      cases rx
      have ec := hcv _ rt
      subst ec
      obtain ⟨ha, _⟩ := I.pin (a, oe) (List.mem_append_left pins List.mem_cons_self)
      obtain ⟨vs, hdat⟩ := hf
      obtain ⟨mA, hns, hr⟩ := I.hok dd (HO.xd fs) hd
      obtain ⟨od, ho, hl⟩ := lookIn_ns hns
      have J : PySem.W.InstAt s.heap a oe D (some od) := by
        obtain ⟨oc, odd, oda, osl⟩ := oe
        obtain ⟨h1, h2⟩ := hz
        dsimp only at h1 h2 hdat
        subst h1 h2 hdat
        exact ⟨ha, rfl, rfl, ho⟩
      exact PySem.W.kia_one (kit_err C.hg C.hk C.hs C.hd C.ha C.hn C.ht C.hm) I.kIn J e (fun z => nomatch z) fun tk => ⟨.bl b, H, I.kept (t' := tk) fun _ _ z => z, rfl, q⟩
end
end OS
/-! isinstance of the error that is handled -/
namespace OZ
open PySem L2 PySem.Spec PyProof.Rows
theorem cd_isE {M : Mode} {X : Cx} {KE : Kx} {P : Da → Nat → Prop} {m : Nat} {N : List Str} {sc : Scope} {B : Bd} {a dd C : Addr} {fs : List (Str × Da)} {c : Da} {u : Value} {b : Bool} (cx : Ctx X N sc B) (su : SuX X C a dd) (E : ExcC B.K C) (hc : ClsDa c u) (hk : KitG B.K (.ref C) u b) (k : P (.bl b) m) : CallD M X KE (.builtin "isinstance") [.exc a dd fs, c] P m := by
  have eb := cx.b
  subst eb
  obtain ⟨X0, oe, pn, rfl, hz, hf⟩ := su.ex
  exact .of (OS.call_isEd E hz hf) fun G H _ vs ok r po => by
    obtain ⟨v, w, rfl, r1, r2⟩ := reps2 r
    cases r1 with
    | exc g rf =>
      refine ⟨w, u, b, rfl, rfl, ⟨dd, _, rfl, ok.sub _ _ g⟩, ?_, hk.k, po _ _ m G H k ok (.bl b)⟩
      cases hc with
      | ty n => cases r2; exact fun u h => by first | exact h | (obtain ⟨t, h⟩ := h; exact h)
      | own C => cases r2; exact fun u h => by first | exact h | (obtain ⟨t, h⟩ := h; exact h)
theorem kit_E {K : PySem.W.Frag} {t : Value} {C : Addr} {b : Bool} (hd : PySem.W.hasDictIn K C = true) (h1 : PySem.W.typeIn K (.ref C) = some (.type "type")) (h : PySem.W.subIn K t (.ref C) = some b) (hn : (t == .ref C) = false) : KitG K t (.ref C) b := by
  refine ⟨?_⟩
  unfold PySem.W.kitOne
  rw [if_neg (by rw [hn]; exact Bool.false_ne_true)]
  obtain ⟨cd, hc, _⟩ := PySem.W.any_some hd
  show (if ((PySem.W.clsIn K C).isSome && PySem.W.typeIn K (.ref C) == some (.type "type")) = true then PySem.W.subIn K t (.ref C) else none) = some b
  rw [if_pos (by rw [hc, h1] <;> rfl)]
  exact h
end OZ
/-! an own list of lists is looked at for a while: the value told holds no such list -/
namespace OZ
open PySem L2 PySem.Spec PyProof.Rows
mutual
def avD : Da → Bool
  | .non => true | .bl _ => true | .int _ => true | .str _ => true
  | .lst ds => ds.all flD
  | .tup ds => avDs ds
  | _ => false
def avDs : List Da → Bool
  | [] => true
  | d :: ds => avD d && avDs ds
end
/-- not flat: its value is an object -/
def hvD : Da → Bool
  | .lst _ => true | .tup _ => true | .dct _ => true | .obj _ _ => true | _ => false
theorem hv_ref {K : PySem.W.Frag} {G : Hp} {v : V} {d : Da} (h : hvD d = true) (r : Rep K G v d) : ∃ b, v = .ref b := by
  cases r <;> first | exact ⟨_, rfl⟩ | cases h
theorem fl_noref {K : PySem.W.Frag} {G : Hp} {b : Addr} {d : Da} (h : flD d = true) (r : Rep K G (.ref b) d) : False := by
  cases r <;> cases h
def butP (G : Hp) (p : Addr) : Hp := fun b => if b = p then none else G b
theorem butP_ne {G : Hp} {p b : Addr} (h : b ≠ p) : butP G p b = G b := if_neg h
theorem rd_but {G : Hp} {p a : Addr} {u : HO} (ne : a ≠ p) (r : Rd G a u) : Rd (butP G p) a u := r.elim (fun r => .inl (by rw [butP_ne ne]; exact r)) fun ⟨o, r⟩ => .inr ⟨o, by rw [butP_ne ne]; exact r⟩
theorem reps_flat' {K : PySem.W.Frag} {G G' : Hp} : ∀ {vs : List V} {ds : List Da}, ds.all flD = true → Reps K G vs ds → Reps K G' vs ds
  | _, _, _, .nil => .nil
  | _, _, h, .cons a b => by
    simp only [List.all_cons, Bool.and_eq_true] at h
    exact .cons (flD_rep h.1 a) (reps_flat' h.2 b)
mutual
theorem avD_rep {K : PySem.W.Frag} {G : Hp} {p b0 : Addr} {vs0 : List V} (hp : G p = some (.lst (.ref b0 :: vs0))) : ∀ {d : Da} {v : V}, avD d = true → Rep K G v d → Rep K (butP G p) v d
  | .non, _, _, .non => .non
  | .bl _, _, _, .bl b => .bl b
  | .int _, _, _, .int b => .int b
  | .str _, _, _, .str b => .str b
  | .lst ds, _, h, r => by
    cases r with
    | lst q r =>
      rename_i a vs
      have h : ds.all flD = true := by unfold avD at h; exact h
      have ne : a ≠ p := fun z => by
        subst z
        rw [hp] at q
        cases q
        cases r with
        | cons x y => simp only [List.all_cons, Bool.and_eq_true] at h; exact fl_noref h.1 x
      exact .lst (by rw [butP_ne ne]; exact q) (reps_flat' h r)
  | .tup ds, _, h, r => by
    cases r with
    | tup q r =>
      rename_i a vs
      have h : avDs ds = true := by unfold avD at h; exact h
      refine .tup ?_ (avDs_reps hp h r)
      rcases q with q | q
      · refine .inl (rd_but (fun z => ?_) q)
        subst z
        rcases q with q | ⟨o, q⟩ <;> rw [hp] at q <;> cases q
      · exact .inr q
  | .ty _, _, h, _ => by unfold avD at h; cases h
  | .ref _, _, h, _ => by unfold avD at h; cases h
  | .dct _, _, h, _ => by unfold avD at h; cases h
  | .obj _ _, _, h, _ => by unfold avD at h; cases h
  | .exc _ _ _, _, h, _ => by unfold avD at h; cases h
theorem avDs_reps {K : PySem.W.Frag} {G : Hp} {p b0 : Addr} {vs0 : List V} (hp : G p = some (.lst (.ref b0 :: vs0))) : ∀ {ds : List Da} {vs : List V}, avDs ds = true → Reps K G vs ds → Reps K (butP G p) vs ds
  | [], _, _, .nil => .nil
  | d :: ds, _, h, .cons a b => by
    have h : (avD d && avDs ds) = true := by unfold avDs at h; exact h
    rw [Bool.and_eq_true] at h
    exact .cons (avD_rep hp h.1 a) (avDs_reps hp h.2 b)
end
section
variable {M : Mode} {X : Cx} {KE : Kx} {e : Expr} {sl : List Sl} {P : Da → Nat → Prop} {m i : Nat} {q : Option Addr} {x : Da} {xs : List Da}
theorem evd_bor2 (hi : sl[i]? = some (.mm q (.lst (x :: xs)))) (hv : hvD x = true) (h : EvD M X (fun C fs m => flF fs = true ∧ KE C fs m) e (sl.set i (.v (.lst (x :: xs)))) (fun z m' => avD z = true ∧ P z m') m) : EvD M X KE e sl P m := by
  intro G0 H0 G H σ W Q ok so wi po
  obtain ⟨a, u, e1, hu, ga, nx, h0, rm, so2⟩ := sok_pub so hi rfl
  refine h G0 H0 _ H σ W Q (ok.pub hu ga nx h0) so2 (wis_bor wi hu ga (repm_xd rm hu)) fun v z m' G' H' ⟨fl, p⟩ ok' r => ?_
  obtain ⟨vs, hh, rs⟩ := rm
  cases rs with
  | cons r1 r2 =>
    obtain ⟨b, rfl⟩ := hv_ref hv r1
    rw [hu] at hh
    cases hh
    have hp : G' a = some (.lst (.ref b :: _)) := ok'.le _ _ upd_same
    refine po v z m' (butP G' a) H' p ⟨fun c o hc => ?_, ok'.inv, fun c xx => ?_, fun c o hc => ?_, ok'.keep, fun c o hc n gc => ?_⟩ (avD_rep hp fl r)
    · by_cases z : c = a
      · subst z; unfold butP at hc; rw [if_pos rfl] at hc; cases hc
      · rw [butP_ne z] at hc; exact ok'.sub _ _ hc
    · by_cases z : c = a
      · subst z; exact if_pos rfl
      · rw [butP_ne z]; exact ok'.off _ xx
    · have z : c ≠ a := fun z => by subst z; rw [ga] at hc; cases hc
      rw [butP_ne z]
      exact ok'.le _ _ (by rw [upd_ne z]; exact hc)
    · by_cases z : c = a
      · subst z; exact if_pos rfl
      · rw [butP_ne z]; exact ok'.new c o hc n (by rw [upd_ne z]; exact gc)
end
theorem avDs_flat : ∀ {ds : List Da}, ds.all flD = true → avDs ds = true
  | [], _ => rfl
  | d :: ds, h => by
    simp only [List.all_cons, Bool.and_eq_true] at h
    unfold avDs
    rw [avDs_flat h.2, Bool.and_true]
    cases d <;> first | rfl | (cases h.1)
end OZ

namespace OS
open PySem L2 PySem.Spec PyProof.Rows
/-! ### a def called where an exception may be handled: nothing leaves it -/
structure RoomC (k : Nat) (A : Around) : Prop where
  dp : A.depth + 3 * k + 5 < recursionLimit
  un : A.units + 16 * k + 200 < cLine
theorem RoomC.deeper {k : Nat} {A : Around} (r : RoomC (k + 1) A) (env : Env) : RoomC k (A.deeper env) :=
  ⟨by have := r.dp; show A.depth + 1 + 3 * k + 5 < _; omega, by have := r.un; show A.units + 3 + 16 * k + 200 < _; omega⟩
theorem RoomC.depth {k : Nat} {A : Around} (r : RoomC k A) : A.depth < recursionLimit := by have := r.dp; omega
abbrev cxC (P : Program) (w : World) (K : PySem.W.Frag) (mg : Str → Option Value) (base : Heap) (N : List Str) (qual : Str) (scope : Scope) (f : Addr) (cd : Value) (A : Around) (outer : List Env) (s : Shared) (H : Hp) (E : XK) : Cx :=
  { cxOf CX0 P w K mg base N qual scope f cd A outer s H E with calm := false }
structure FnC (P : Program) (w : World) (K : PySem.W.Frag) (mg : Str → Option Value) (base : Heap) (k : Nat) (f : Addr) (fd : FuncData) (ps : List Str) (sp : Sp) : Prop where
  len : ∀ vs H Q E, sp vs H Q E → vs.length = ps.length
  run : ∀ (A : Around) (outer : List Env) (s : Shared) (H : Hp) (args : Args) (us : List Value) (vs : List V) (Q : VK) (E : XK), RoomC k A → Env0 P w K mg base A outer s H → BindsTo s fd args (ps.zip us) → Vals vs us → sp vs H Q E → codeAny (model P w) A (.call (.ref f) args) (CR CX0 outer P w H s Q E) s
section
variable {P : Program} {w : World} {K : PySem.W.Frag} {mg : Str → Option Value} {base : Heap} {x qual : Str} {st : Stmt} {f : Addr} {fd : FuncData} {N ps : List Str} {k : Nat} {sp : Sp}
theorem inv_startC {scope : Scope} {cd : Value} {A : Around} {outer : List Env} {s s1 : Shared} {H : Hp} {E : XK} {us : List Value} {vs : List V} (S : FnScope N ps scope) (e0 : Env0 P w K mg base A outer s H) (hl : vs.length = ps.length) (r : Vals vs us)
    (x : InCallC s s.heap.objs.size (bindL (PyProof.Rows.envOfC qual scope s.heap.objs.size f cd).kindOf (ps.zip us) fun _ => none) (cellsFrom (s.heap.objs.size + 1) scope.names []) (bindC (PyProof.Rows.envOfC qual scope s.heap.objs.size f cd).kindOf (ps.zip us) fun _ => none) s1) :
    Inv (cxC P w K mg base N qual scope f cd A outer s H E) [] (L2.start N vs) H s1 := by
  have e1 : Env0 P w K mg base { A with handled := none } outer s H := ⟨e0.frames, e0.mod, e0.bs, e0.bsz, e0.funs, e0.frf, e0.hok, e0.bare⟩
  have J := inv_start (CX := CX0) (A := { A with handled := none }) (E := E) S rfl e1 hl r x
  exact ⟨⟨J.ok.mod, J.ok.kind, J.ok.glob, J.ok.blt, J.ok.above, J.ok.inj, J.ok.has, J.ok.cab, fun z => Bool.noConfusion z, Around.frames_deeper e0.frames, J.ok.stk, J.ok.exf, J.ok.bs, J.ok.bsz, J.ok.noex, J.ok.exfs, J.ok.funs, J.ok.frf⟩,
    J.os, J.bare, J.base, J.loc, J.cell, J.free, J.freeC, J.pin, J.hok, J.len⟩
theorem Fun.okC (F : Fun K x qual st f fd) (S : FnScope N ps (defScope st)) (len : ∀ vs H Q E, sp vs H Q E → vs.length = ps.length)
    (hbody : ∀ (cdv : Value) (A : Around) (outer : List Env) (s : Shared) (H : Hp) (vs : List V) (Q : VK) (E : XK), RoomC k (A.deeper (PyProof.Rows.envOfC qual (defScope st) s.heap.objs.size f cdv)) → sp vs H Q E →
      ∃ t, PSs (cxC P w K mg base N qual (defScope st) f cdv A outer s H E) (defBody st) t ∧ t { nx := fun _ H' => Q .non H', rt := Q } (L2.start N vs) H) : FnC P w K mg base (k + 1) f fd ps sp := by
  obtain ⟨oc, od, kV, doc, pm, an, cdv, ct, osl, rfl, lk, hcd⟩ := F.ex
  refine ⟨len, fun A outer s H args us vs Q E hr e0 hb r hsp => ?_⟩
  have hl := len vs H Q E hsp
  have KX := PySem.W.Frag.In.keeps e0.mod.kin fun b o e => (e0.bs b o e).left
  have lim := Heap.NoLimit.keeps e0.mod.nolimit fun b o e => (e0.bs b o e).left
  have hkind : ∀ y ∈ ps.zip us, List.lookup y.1 (defScope st).names = some NameKind.local ∨ List.lookup y.1 (defScope st).names = some NameKind.cell ∧ (List.lookup y.1 (cellsFrom (s.heap.objs.size + 1) (defScope st).names [])).isSome = true := by
    rintro ⟨n, v⟩ hy
    rcases S.par n (List.of_mem_zip hy).left with q | q
    · exact .inl q
    · exact .inr ⟨q, PySem.W.cellsFrom_some (defScope st).names (s.heap.objs.size + 1) [] (Or.inl q)⟩
  refine codeAny_call_function (RoomC.depth hr) (KX f _ lk) rfl S.co S.gen rfl (PySem.W.codeRec_of KX hcd) (hb (model P w) A.in1 _ _ ?_)
  refine wpAny_newFunctionEnv_cells S.kind hkind fun env he s1 x => ?_
  subst he
  refine ⟨Heap.NoLimit.keeps lim x.toInCall.keep, codeAny_func ?_⟩
  obtain ⟨t, ht, hq⟩ := hbody cdv A outer s H vs Q E (RoomC.deeper hr (PyProof.Rows.envOfC qual (defScope st) s.heap.objs.size f cdv)) hsp
  have I := inv_startC (E := E) S e0 hl r x
  refine wpAny_mono (ht.run [] s1 (L2.start N vs) H { nx := fun _ H' => Q V.non H', rt := Q } I hq) (fun fl s' hs => ?_) fun e s' hs => hs
  have fin : ∀ {σ' : L2.St} {H' : Hp} {v : V} {u : Value}, Inv (cxC P w K mg base N qual (defScope st) f cdv A outer s H E) [] σ' H' s' → RelV v u → Q v H' → CR CX0 outer P w H s Q E (.ok (.ret u)) s' := fun {σ' H' v u} J rv q => ⟨v, H', J.os, J.bare, J.base, J.hok, rv, q⟩
  cases fl with
  | next => obtain ⟨σ', H', J, q⟩ := hs; exact fin (v := .non) (u := .none) J rfl q
  | brk => obtain ⟨_, _, _, q⟩ := hs; exact False.elim q
  | cont => obtain ⟨_, _, _, q⟩ := hs; exact False.elim q
  | ret u => obtain ⟨v, σ', H', J, rv, q⟩ := hs; exact fin J rv q
end
end OS
namespace OZ
open PySem L2 PySem.Spec PyProof.Rows
/-- a def that may be called while an error is handled; nothing leaves it -/
structure FnGC (M : Mode) (B : Bd) (k : Nat) (f : Addr) (n : Nat) (F : FD) : Prop where
  ex : ∃ (fd : FuncData) (ps : List Str), OS.FnC B.P B.w B.K B.mg B.base k f fd ps (spD M B.K n F) ∧ Binds B.K fd ps [] ∧ n = ps.length
structure CallGC (M : Mode) (B : Bd) (k : Nat) (x : Str) (n : Nat) (F : FD) : Prop where
  ex : ∃ f : Addr, B.mg x = some (.ref f) ∧ PySem.W.keepIn B.K (.ref f) = true ∧ FnGC M B k f n F
section
variable {B : Bd} {M : Mode} {x qual : Str} {st : Stmt} {f : Addr} {fd : FuncData} {N ps : List Str} {k n : Nat} {F : FD}
theorem fnGC_ok (Fn : Fun B.K x qual st f fd) (S : FnScope N ps (defScope st)) (hn : n = ps.length) (hb : Binds B.K fd ps [])
    (h : ∀ (X : Cx) (ds : List Da) (KR : Da → Nat → Prop) (KE : Kx) (m : Nat), (∃ cdv A outer s H E, X = OS.cxC B.P B.w B.K B.mg B.base N qual (defScope st) f cdv A outer s H E) → Ctx X N (defScope st) B → OS.RoomC k X.A → ds.length = n → F ds KR KE m →
      StD M X (fun _ => K0) (defBody st) (startD N ds) { nx := fun _ m' => KR .non m', rt := KR } m) : FnGC M B (k + 1) f n F := by
  refine ⟨fd, ps, OS.Fun.okC Fn S (fun vs H Q E q => q.1.trans hn) (fun cdv A outer s H vs Q E hr q => ?_), hb, hn⟩
  obtain ⟨hl, G, m, ds, KR, KE, ok, r, hF, po, _⟩ := q
  refine ⟨_, pss_wp, ?_⟩
  refine h (OS.cxC B.P B.w B.K B.mg B.base N qual (defScope st) f cdv A outer s H E) ds KR KE m ⟨cdv, A, outer, s, H, E, rfl⟩ ⟨rfl, rfl, S.nd, rfl⟩ hr (r.length.symm.trans hl) hF G H G H (L2.start N vs) (fun _ _ _ _ => False) _ ok (sok_start r) ⟨takes0, fun _ _ _ _ _ _ _ _ z => z.elim⟩ ⟨?_, ?_, ?_, ?_, ?_⟩
  · exact fun σ sl m' G' H' q o _ => po .non .non m' G' H' q o .non
  · exact fun v d m' G' H' q o rr => po v d m' G' H' q o rr
  · exact fun _ _ _ _ _ z => z.elim
  · exact fun _ _ _ _ _ z => z.elim
  · exact fun _ _ _ _ _ z => z.elim
end
section
variable {M : Mode} {X : Cx} {KE : Kx} {P : Da → Nat → Prop} {m k n j : Nat} {f : Addr} {F : FD} {ds : List Da} {x : Str} {e : Expr} {es : List Expr} {sl : List Sl} {pos p : Pos}
theorem FnGC.callP (C : FnGC pureM (bdOf X) k f n F) (hr : OS.RoomC k X.A) (hl : ds.length = n) (h : F ds (fun d _ => P d m) K0 0) : CallD M X KE (.ref f) ds P m := by
  obtain ⟨fd, ps, Fo, hb, hn⟩ := C.ex
  intro G H σ W Q vs ok wi r po pins s us I rv
  have b := hb s us I.kIn (by rw [List.append_nil, ← rv.length, r.length, hl, hn])
  rw [List.append_nil] at b
  refine wpAny_call (codeAny_mono (Fo.run X.A X.stack s H ⟨us, []⟩ us vs Q E0 hr I.env0 b rv ⟨r.length.trans hl, G, 0, ds, _, _, ok.toPure, r, h, fun v d m' G' H' p o rr => po v d m G' H' p (ok.lift o) rr, fun C fs d m' G' H' p o x => p.elim⟩) fun r s' hq => ?_)
  cases r with
  | error e => exact False.elim hq
  | ok fl =>
    cases fl with
    | ret u => exact I.after hq
    | next => exact False.elim hq
    | brk => exact False.elim hq
    | cont => exact False.elim hq
theorem evd_callC {N : List Str} {sc : Scope} {B : Bd} (cx : Ctx X N sc B) (C : CallGC pureM B k x n F) (hr : OS.RoomC k X.A) (h : EvA M X KE (e :: es) sl (fun ds m1 => ds.length = n ∧ F ds (fun d _ => P d m1) K0 0) m) (hg : GlS sc x := by with_unfolding_all rfl) (hdb : (x == ("__debug__" : Str)) = false := by with_unfolding_all decide)
    (he : starEach (e :: es) X.env = (false, eval e X.env) :: starEach es X.env := by with_unfolding_all rfl) (hpl : (backTo pos (starEach es X.env)).any (·.1) = false := by with_unfolding_all rfl) : EvD M X KE (.Call (.Name x p) (e :: es) [] pos) sl P m := by
  have eb := cx.b
  subst eb
  obtain ⟨f, hm, hkp, c⟩ := C.ex
  exact evd_callF cx hm hkp (eva_imp h fun ds m1 q => c.callP hr q.1 q.2) hg hdb he hpl
theorem roomH_suite {X : Cx} {a : Addr} {pn : List (Addr × Obj)} {N : List Str} {sc : Scope} {B : Bd} {k j : Nat} (_ : Ctx (X.suite a pn) N sc B) (hr : Room j X.A) (h : k ≤ j := by decide) : OS.RoomC k (X.suite a pn).A := ⟨(hr.mono h).dp, (hr.mono h).un⟩
end
end OZ

/-! x.name(y.name2(..)) where x and y are the run's own -/
namespace OZ
open PySem L2 PySem.Spec PyProof.Rows
section
variable {M : Mode} {X : Cx} {KE : Ks} {e : Expr} {es : List Expr} {sl : List Sl} {D : Kn} {m : Nat} {pos pos2 spos p py p2 p3 : Pos} {x y : Str} {N : List Str} {sc : Scope} {B : Bd}
variable {T T2 id id2 : String} {name name2 : Str} {r r2 : V → List V → Hp → VK → Prop} {d0 dy : Da} {i j : Nat}
theorem st1_ownOwn (cx : Ctx X N sc B) (hx : EnvAt N sl x i (.m d0)) (C : OwnC X T name id r) (ty : TyM T d0) (hy : EnvAt N sl y j (.m dy)) (C2 : OwnC X T2 name2 id2 r2) (ty2 : TyM T2 dy)
    (h : EvA M X (KE sl) (e :: es) sl (fun ds m1 => ∃ res d1, OwnR X r2 dy ds res d1 ∧ ∃ j' sl1, EnvSet N sl y j' (.m d1) sl1 ∧ EnvAt N sl1 x i (.m d0) ∧ ∃ res' d1', OwnR X r d0 [res] res' d1' ∧ ∃ i' sl', EnvSet N sl1 x i' (.m d1') sl' ∧ D.nx sl' m1) m)
    (hv : Vis sc x := by with_unfolding_all first | exact Or.inl rfl | exact Or.inr (Or.inl rfl) | exact Or.inr (Or.inr rfl)) (hd : (x == ("__debug__" : Str)) = false := by with_unfolding_all decide) (hcd : (x == ("__classdict__" : Str)) = false := by with_unfolding_all decide)
    (hvy : Vis sc y := by with_unfolding_all first | exact Or.inl rfl | exact Or.inr (Or.inl rfl) | exact Or.inr (Or.inr rfl)) (hdy : (y == ("__debug__" : Str)) = false := by with_unfolding_all decide) (hcdy : (y == ("__classdict__" : Str)) = false := by with_unfolding_all decide)
    (hbase : attributeBase (.Name x p) name X.env (eval (.Name x p) X.env) = eval (.Name x p) X.env := by with_unfolding_all rfl)
    (hbase2 : attributeBase (.Name y py) name2 X.env (eval (.Name y py) X.env) = eval (.Name y py) X.env := by with_unfolding_all rfl)
    (hfew : ((backTo pos (starEach [.Call (.Attribute (.Name y py) name2 p3) (e :: es) [] pos2] X.env)).all (fun x => !x.1) && (backToKw pos (keywordEach [] X.env)).all (fun x => x.1.isSome)
      && decide (([.Call (.Attribute (.Name y py) name2 p3) (e :: es) [] pos2] : List Expr).length + ([] : List Keyword).length + (if ([] : List Keyword).isEmpty then 0 else 1) < 30)) = true := by with_unfolding_all rfl)
    (hfew2 : ((backTo pos2 (starEach (e :: es) X.env)).all (fun x => !x.1) && (backToKw pos2 (keywordEach [] X.env)).all (fun x => x.1.isSome)
      && decide ((e :: es).length + ([] : List Keyword).length + (if ([] : List Keyword).isEmpty then 0 else 1) < 30)) = true := by with_unfolding_all rfl)
    (hline : (p2.endLine == pos.line) = true := by with_unfolding_all rfl) (hline2 : (p3.endLine == pos2.line) = true := by with_unfolding_all rfl)
    (hst : starEach [.Call (.Attribute (.Name y py) name2 p3) (e :: es) [] pos2] X.env = (false, eval (.Call (.Attribute (.Name y py) name2 p3) (e :: es) [] pos2) X.env) :: starEach [] X.env := by with_unfolding_all rfl)
    (hst2 : starEach (e :: es) X.env = (false, eval e X.env) :: starEach es X.env := by with_unfolding_all rfl)
    (hplain : (backTo pos (starEach [] X.env)).any (·.1) = false := by with_unfolding_all rfl) (hplain2 : (backTo pos2 (starEach es X.env)).any (·.1) = false := by with_unfolding_all rfl)
    (hs : swapsWith (.Call (.Attribute (.Name x p) name p2) [.Call (.Attribute (.Name y py) name2 p3) (e :: es) [] pos2] [] pos) none spos.line X.env = pure false := by with_unfolding_all rfl) :
    St1 M X KE (.Expr (.Call (.Attribute (.Name x p) name p2) [.Call (.Attribute (.Name y py) name2 p3) (e :: es) [] pos2] [] pos) spos) sl D m := by
  intro G0 H0 G H σ W E ok so wi po
  refine wpS.of (ps_expr pe_wp hs) ?_
  refine wpE.of (pe_bm C.pa C.slot C.hty C.hm (pe_var (by rw [cx.n]; exact hx.name) (cx.vis hv) hd hcd) (pa_cons pe_wp pa_nil hst) hbase hfew hline hst hplain) ?_
  obtain ⟨o, e1, ad, rfl, zz, g, h0, n, rm⟩ := paired_get so.rel hx.slot
  refine ⟨_, e1, ty _ _ _ _ rm, ?_⟩
  refine own_e (R := fun res d1 m1 => ∃ j' sl1, EnvSet N sl y j' (.m d1) sl1 ∧ EnvAt N sl1 x i (.m d0) ∧ ∃ res' d1', OwnR X r d0 [res] res' d1' ∧ ∃ i' sl', EnvSet N sl1 x i' (.m d1') sl' ∧ D.nx sl' m1) cx hy C2 ty2 h hvy hdy hcdy hbase2 hfew2 hline2 hst2 hplain2 ok so (wi.at ok so) fun v res d1 m1 G' H' ⟨j', sl1, es1, hx1, res', d1', own, i', sl', es2, q⟩ ok' so' rr => ?_
  rw [← envset_eq (cx.n ▸ cx.nd) hy.name es1] at so'
  obtain ⟨o', e2, ad', hh, zz', g', h0', n', rm'⟩ := paired_get so'.rel hx1.slot
  rw [e1] at e2
  cases e2
  cases hh
  refine own G' H' ad [v] _ ok'.sub rm' (.cons rr .nil) fun w v2 r1 r2 => ?_
  obtain ⟨k1, k2⟩ := own_step ok' so' hx1.slot e1 r1
  exact po.nx σ _ m1 G' _ q k1 (envset_eq (cx.n ▸ cx.nd) hx1.name es2 ▸ k2)
end
end OZ

/-! a comprehension whose list is the run's own -/
namespace OZ
open PySem L2 PySem.Spec PyProof.Rows
section
variable {M : Mode} {X : Cx} {KE : Kx} {tg iter elt : Expr} {ifs : List Expr} {scope : Scope} {sl sw : List Sl} {P : Da → Nat → Prop} {m j : Nat} {pos : Pos} {N : List Str} {sc : Scope} {B : Bd} {own : List (Str × Nat)}
theorem evn_lc (cx : Ctx X N sc B) (hr : Room j X.A) (ot : OwnT N tg own) (wp : WipeS N own sl sw) (h : IterD M X KE tg iter sl (fun ds m1 => ds.length < sizeLine ∧ CompD (lcStep M X scope N sc B j (own.map (·.2)) tg ifs elt sw) ds (fun r m2 => P (.lst r) m2) m1) m)
    (hb : blkC N sc scope own = true := by with_unfolding_all decide +kernel) (hc : X.calm = true := by with_unfolding_all rfl) (hs : ∀ x, foldedSetIterable iter X.env x = pure x := by with_unfolding_all (intro _; rfl)) : EvN M X KE (.ListComp elt [⟨tg, iter, ifs, 0⟩] scope pos) sl P m := by
  intro G0 H0 G H σ W Q ok so wi po
  refine wpE.of (pe_lc (own := own) (wi := wpI X tg iter) (g := gBlk X scope tg) (tt := tBlk X scope ifs) (te := eBlk X scope elt) hc cx.nd pi_wp ?_ ?_ ?_ ?_ hs) ?_
  · rw [cx.n, cx.s]; exact blkOk_by hb
  · exact fun s Hb C cl fp => ⟨fun pins s' σ H v u Q I r q => q s Hb C cl fp pins s' u I r⟩
  · intro s Hb C cl fp
    match ifs with
    | [] => exact pts_nil
    | [c] => exact pts_one ⟨fun pins s' σ H Q I q => q s Hb C cl fp pins s' I⟩
    | _ :: _ :: _ => exact ⟨fun pins s' σ H Q I q => q.elim⟩
  · exact fun s Hb C cl fp => ⟨fun pins s' σ H Q I q => q s Hb C cl fp pins s' I⟩
  · refine h G0 H0 G H σ W _ ok so wi fun J ds m1 G1 H1 q o1 wk => fun D hD => ?_
    refine lc_run cx hr hc wp ok so o1 wk q.1 q.2 D hD fun out m' G' H' p k g h0 nx ⟨acc, e, r⟩ => ?_
    exact po D (.lst out) m' G' H' p k ⟨g, h0, nx, ⟨acc, e, r⟩⟩
end
section
variable {M : Mode} {X : Cx} {KE : Ks} {e : Expr} {sl : List Sl} {D : Kn} {m : Nat} {pos p : Pos} {x : Str} {N : List Str} {sc : Scope} {B : Bd}
/-- x += e, over integers -/
theorem st1_augI {i0 : Nat} {a : Int} (cx : Ctx X N sc B) (hx : EnvAt N sl x i0 (.v (.int a))) (h : EvD M X (KE sl) e sl (fun d m1 => ∃ b, d = .int b ∧ ∃ i sl', EnvSet N sl x i (.v (.int (a + b))) sl' ∧ D.nx sl' m1) m)
    (hl : Loc sc x := by with_unfolding_all first | exact Or.inl rfl | exact Or.inr rfl) (hf : X.fn x = true ∨ X.env.scope.names.lookup x = some .local := by with_unfolding_all first | exact Or.inl rfl | exact Or.inr rfl) : St1 M X KE (.AugAssign (.Name x p) .Add e pos) sl D m := by
  intro G0 H0 G H σ W E ok so wi po
  refine wpS.of (ps_aug (i := i0) cx.nd (by rw [cx.n]; exact hx.name) (cx.loc hl) pe_wp ip_add hf) ?_
  obtain ⟨o, e1, v, rfl, rv⟩ := paired_get so.rel hx.slot
  cases rv.int_inv
  refine ⟨.int a, e1, ?_⟩
  refine h G0 H0 G H σ W _ ok so (wi.at ok so) fun y d m1 G1 H1 p o1 ry => ?_
  obtain ⟨b, rfl, i, sl', es, q⟩ := p
  cases ry.int_inv
  refine ⟨a, b, rfl, rfl, ?_⟩
  have so1 := so.step o1
  refine po.nx _ sl' m1 G1 H1 q (ok.trans o1) ?_
  rw [envset_eq (cx.n ▸ cx.nd) hx.name es]
  exact so1.setV i0 (.int _)
end
end OZ

/-! a def whose result is the run's own: a new list or dict -/
namespace OZ
open PySem L2 PySem.Spec PyProof.Rows
def spDN (M : Mode) (K : PySem.W.Frag) (n : Nat) (F : FD) : Sp := fun vs H Q E => vs.length = n ∧ ∃ G m ds KR KE, Ok M G H G H m ∧ Reps K G vs ds ∧ F ds KR KE m ∧ (∀ ad d m' G' H', KR d m' → Ok M G H G' H' m' → New K M H G' H' ad d → Q (.ref ad) H') ∧
  (∀ C fs d m' G' H', KE C fs m' → Ok M G H G' H' m' → XRep K G' H' d fs → E (.ref C) d H')
structure FnGN (M : Mode) (B : Bd) (k : Nat) (f : Addr) (n : Nat) (F : FD) : Prop where
  ex : ∃ (CX : CXT) (fd : FuncData) (ps : List Str), FnOk B.P B.w B.K B.mg B.base CX k f fd ps (spDN M B.K n F) ∧ Binds B.K fd ps [] ∧ (CX = CX0 ∨ CX = L2.CX B.P B.w) ∧ n = ps.length
structure CallGN (M : Mode) (B : Bd) (k : Nat) (x : Str) (n : Nat) (F : FD) : Prop where
  ex : ∃ f : Addr, B.mg x = some (.ref f) ∧ PySem.W.keepIn B.K (.ref f) = true ∧ FnGN M B k f n F
theorem New.lift {K : PySem.W.Frag} {M : Mode} {G0 H0 G H G' H' : Hp} {m k : Nat} {ad : Addr} {d : Da} (a : Ok M G0 H0 G H m) (b : Ok pureM G H G' H' k) (n : New K pureM H G' H' ad d) : New K M H G' H' ad d := by
  have hn : H ad = none := n.h0.elim id fun z => z.elim
  refine ⟨n.g, .inl hn, fun z => ?_, n.r⟩
  obtain ⟨c1, c2⟩ := M.clo m H H' a.inv fun c u x e => (b.keep c u e (fun h => h)).1
  obtain ⟨u, e⟩ := M.there m H ad a.inv (c2 _ z)
  rw [hn] at e; cases e
section
variable {M : Mode} {X : Cx} {KE : Kx} {P : Da → Nat → Prop} {m k n j : Nat} {f : Addr} {F : FD} {ds : List Da} {x : Str} {e : Expr} {es : List Expr} {sl : List Sl} {pos p : Pos}
theorem FnGN.call (C : FnGN M (bdOf X) k f n F) (hr : Room j X.A) (hl : ds.length = n) (h : F ds P KE m) (hk : k ≤ j := by with_unfolding_all decide) : CallDN M X KE (.ref f) ds P m := by
  obtain ⟨CX, fd, ps, Fo, hb, hc, _⟩ := C.ex
  intro G H σ W Q vs ok wi r po pins s us I rv
  exact run_fnS (E := WE W) Fo (hr.mono hk) hb (passes_any wi.tk hc σ) I rv ⟨r.length.trans hl, G, m, ds, P, KE, ok, r, h, po, fun C fs d m' G' H' => wi.ex C fs d m' G' H'⟩
theorem FnGN.callP (C : FnGN pureM (bdOf X) k f n F) (hr : Room j X.A) (hl : ds.length = n) (h : F ds (fun d _ => P d m) (fun C fs _ => KE C fs m) 0) (hk : k ≤ j := by with_unfolding_all decide) : CallDN M X KE (.ref f) ds P m := by
  obtain ⟨CX, fd, ps, Fo, hb, hc, _⟩ := C.ex
  intro G H σ W Q vs ok wi r po pins s us I rv
  exact run_fnS (E := WE W) Fo (hr.mono hk) hb (passes_any wi.tk hc σ) I rv ⟨r.length.trans hl, G, 0, ds, _, _, ok.toPure, r, h, fun ad d m' G' H' p o rr => po ad d m G' H' p (ok.lift o) (rr.lift ok o), fun C fs d m' G' H' p o x => wi.ex C fs d m G' H' p (ok.lift o) x⟩
theorem evn_callF {N : List Str} {sc : Scope} {B : Bd} {f : Addr} (cx : Ctx X N sc B) (hm : B.mg x = some (.ref f)) (hk : PySem.W.keepIn X.K (.ref f) = true) (h : EvA M X KE (e :: es) sl (fun ds m1 => CallDN M X KE (.ref f) ds P m1) m) (hg : GlS sc x := by with_unfolding_all rfl) (hdb : (x == ("__debug__" : Str)) = false := by with_unfolding_all decide)
    (he : starEach (e :: es) X.env = (false, eval e X.env) :: starEach es X.env := by with_unfolding_all rfl) (hpl : (backTo pos (starEach es X.env)).any (·.1) = false := by with_unfolding_all rfl) : EvN M X KE (.Call (.Name x p) (e :: es) [] pos) sl P m := by
  intro G0 H0 G H σ W Q ok so wi po pins s I
  refine wpAny_Call_Name_kw (ld_glob I (cx.gl hg) (cx.mg hm) ?_ hdb)
  refine PySem.W.callWith_K (h₀ := X.base) I.ok.mod.kin hk (h.run ok so wi I (fun us s1 vs ds m1 G1 H1 p1 k1 o1 so1 wi1 r1 I1 rv1 => ?_) pos) he hpl
  exact ⟨I1.kIn, p1 G1 H1 σ W Q vs k1.here wi1 r1 (fun ad d m' G' H' q o n => po ad d m' G' H' q (o1.trans o) (n.back o1)) pins s1 us I1 rv1⟩
/-- a call of a def by its name, whose result is the run's own -/
theorem evn_call {N : List Str} {sc : Scope} {B : Bd} (cx : Ctx X N sc B) (C : CallGN M B k x n F) (hr : Room j X.A) (h : EvA M X KE (e :: es) sl (fun ds m1 => ds.length = n ∧ F ds P KE m1) m) (hk : k ≤ j := by with_unfolding_all decide) (hg : GlS sc x := by with_unfolding_all rfl) (hdb : (x == ("__debug__" : Str)) = false := by with_unfolding_all decide)
    (he : starEach (e :: es) X.env = (false, eval e X.env) :: starEach es X.env := by with_unfolding_all rfl) (hpl : (backTo pos (starEach es X.env)).any (·.1) = false := by with_unfolding_all rfl) : EvN M X KE (.Call (.Name x p) (e :: es) [] pos) sl P m := by
  have eb := cx.b
  subst eb
  obtain ⟨f, hm, hkp, c⟩ := C.ex
  exact evn_callF cx hm hkp (eva_imp h fun ds m1 q => c.call hr q.1 q.2 hk) hg hdb he hpl
theorem evn_callP {N : List Str} {sc : Scope} {B : Bd} (cx : Ctx X N sc B) (C : CallGN pureM B k x n F) (hr : Room j X.A) (h : EvA M X KE (e :: es) sl (fun ds m1 => ds.length = n ∧ F ds (fun d _ => P d m1) (fun C fs _ => KE C fs m1) 0) m) (hk : k ≤ j := by with_unfolding_all decide) (hg : GlS sc x := by with_unfolding_all rfl) (hdb : (x == ("__debug__" : Str)) = false := by with_unfolding_all decide)
    (he : starEach (e :: es) X.env = (false, eval e X.env) :: starEach es X.env := by with_unfolding_all rfl) (hpl : (backTo pos (starEach es X.env)).any (·.1) = false := by with_unfolding_all rfl) : EvN M X KE (.Call (.Name x p) (e :: es) [] pos) sl P m := by
  have eb := cx.b
  subst eb
  obtain ⟨f, hm, hkp, c⟩ := C.ex
  exact evn_callF cx hm hkp (eva_imp h fun ds m1 q => c.callP hr q.1 q.2 hk) hg hdb he hpl
theorem spDN_of {M : Mode} {K : PySem.W.Frag} {n : Nat} {F : FD} (hF : ∀ ds KR KE m, F ds KR KE m → F ds (fun d m => KR d m ∧ notDct d = true) KE m) {vs : List V} {H : Hp} {Q : VK} {E : XK} (h : spD M K n F vs H Q E) : spDN M K n F vs H Q E := by
  obtain ⟨hl, G, m, ds, KR, KE, ok, r, f, po, px⟩ := h
  refine ⟨hl, G, m, ds, _, KE, ok, r, hF _ _ _ _ f, fun ad d m' G' H' q o nw => ?_, px⟩
  obtain ⟨u, hu⟩ := nw.r.there
  exact po _ d m' _ H' q.1 (o.pub hu nw.g nw.nx nw.h0) (repM_rep hu nw.g nw.r q.2)
theorem fnOk_toD {P : Program} {w : World} {K : PySem.W.Frag} {mg : Str → Option Value} {base : Heap} {CX : CXT} {fd : FuncData} {ps : List Str} (hF : ∀ ds KR KE m, F ds KR KE m → F ds (fun d m => KR d m ∧ notDct d = true) KE m) (Fo : FnOk P w K mg base CX k f fd ps (spDN M K n F)) : FnOk P w K mg base CX k f fd ps (spD M K n F) :=
  ⟨fun vs H Q E q => Fo.len vs H Q E (spDN_of hF q), fun A outer s H args us vs Q E hr e0 hb r q => Fo.run A outer s H args us vs Q E hr e0 hb r (spDN_of hF q)⟩
end
section
variable {B : Bd} {M : Mode} {x qual : Str} {st : Stmt} {f : Addr} {fd : FuncData} {N ps : List Str} {k n : Nat} {F : FD}
theorem fnOkN_X (Fn : Fun B.K x qual st f fd) (S : FnScope N ps (defScope st)) (hn : n = ps.length)
    (h : ∀ (X : Cx) (ds : List Da) (KR : Da → Nat → Prop) (KE : Kx) (m : Nat), (∃ cdv A outer s H E, X = cxOf (L2.CX B.P B.w) B.P B.w B.K B.mg B.base N qual (defScope st) f cdv A outer s H E) → Ctx X N (defScope st) B → Room k X.A → ds.length = n → F ds KR KE m →
      StD M X (fun _ => KE) (defBody st) (startD N ds) { nx := fun _ _ => False, rt := fun _ _ => False, rn := KR } m) : FnOk B.P B.w B.K B.mg B.base (L2.CX B.P B.w) (k + 1) f fd ps (spDN M B.K n F) := by
  refine Fn.okX S (fun vs H Q E q => q.1.trans hn) (fun cdv A outer s H vs Q E hr q => ?_)
  obtain ⟨hl, G, m, ds, KR, KE, ok, r, hF, po, px⟩ := q
  refine ⟨_, pss_wp, ?_⟩
  refine h (cxOf (L2.CX B.P B.w) B.P B.w B.K B.mg B.base N qual (defScope st) f cdv A outer s H E) ds KR KE m ⟨cdv, A, outer, s, H, E, rfl⟩ ⟨rfl, rfl, S.nd, rfl⟩ hr (r.length.symm.trans hl) hF G H G H (L2.start N vs) (fun cls d _ H => E cls d H) _ ok (sok_start r) ⟨takes_of rfl rfl rfl rfl, fun C fs d σ sl m' G' H' q o _ x => px C fs d m' G' H' q o x⟩ ⟨?_, ?_, ?_, ?_, ?_⟩
  · exact fun _ _ _ _ _ z => z.elim
  · exact fun _ _ _ _ _ z => z.elim
  · exact fun _ _ _ _ _ z => z.elim
  · exact fun _ _ _ _ _ z => z.elim
  · exact fun ad d m' G' H' q o n => po ad d m' G' H' q o n
theorem fnGN_okX (Fn : Fun B.K x qual st f fd) (S : FnScope N ps (defScope st)) (hn : n = ps.length) (hb : Binds B.K fd ps [])
    (h : ∀ (X : Cx) (ds : List Da) (KR : Da → Nat → Prop) (KE : Kx) (m : Nat), (∃ cdv A outer s H E, X = cxOf (L2.CX B.P B.w) B.P B.w B.K B.mg B.base N qual (defScope st) f cdv A outer s H E) → Ctx X N (defScope st) B → Room k X.A → ds.length = n → F ds KR KE m →
      StD M X (fun _ => KE) (defBody st) (startD N ds) { nx := fun _ _ => False, rt := fun _ _ => False, rn := KR } m) : FnGN M B (k + 1) f n F := ⟨L2.CX B.P B.w, fd, ps, fnOkN_X Fn S hn h, hb, .inr rfl, hn⟩
theorem fnGN_ok (Fn : Fun B.K x qual st f fd) (S : FnScope N ps (defScope st)) (hn : n = ps.length) (hb : Binds B.K fd ps [])
    (h : ∀ (X : Cx) (ds : List Da) (KR : Da → Nat → Prop) (KE : Kx) (m : Nat), (∃ cdv A outer s H E, X = (cxOf CX0 B.P B.w B.K B.mg B.base N qual (defScope st) f cdv A outer s H E).nox) → Ctx X N (defScope st) B → Room k X.A → ds.length = n → F ds KR KE m →
      StD M X (fun _ => K0) (defBody st) (startD N ds) { nx := fun _ _ => False, rt := fun _ _ => False, rn := KR } m) : FnGN M B (k + 1) f n F := by
  refine ⟨CX0, fd, ps, Fn.ok S (fun vs H Q E q => q.1.trans hn) (fun cdv A outer s H vs Q E hr q => ?_), hb, .inl rfl, hn⟩
  obtain ⟨hl, G, m, ds, KR, KE, ok, r, hF, po, _⟩ := q
  refine ⟨_, pss_wp, ?_⟩
  refine h (cxOf CX0 B.P B.w B.K B.mg B.base N qual (defScope st) f cdv A outer s H E).nox ds KR KE m ⟨cdv, A, outer, s, H, E, rfl⟩ ⟨rfl, rfl, S.nd, rfl⟩ hr (r.length.symm.trans hl) hF G H G H (L2.start N vs) (fun _ _ _ _ => False) _ ok (sok_start r) ⟨takes0, fun _ _ _ _ _ _ _ _ z => z.elim⟩ ⟨?_, ?_, ?_, ?_, ?_⟩
  · exact fun _ _ _ _ _ z => z.elim
  · exact fun _ _ _ _ _ z => z.elim
  · exact fun _ _ _ _ _ z => z.elim
  · exact fun _ _ _ _ _ z => z.elim
  · exact fun ad d m' G' H' q o n => po ad d m' G' H' q o n
end
end OZ

namespace OS
open PySem L2
def top (i : Nat) : Stmt := PySem.Challenge.pw_oneshard_k23_whole_kernel.main.body.getD i (.Pass ⟨0, 0, 0, 0⟩)
abbrev sOutOfRange_init : Stmt := inClass (top 3) 0
abbrev sBadLength_init : Stmt := inClass (top 4) 0
abbrev s_common_divisor : Stmt := top 6
abbrev s_common_multiple : Stmt := top 7
abbrev s_check_lengths : Stmt := top 9
abbrev s_shortened : Stmt := top 10
abbrev s_cleared : Stmt := top 12
abbrev s_first_place : Stmt := top 13
abbrev s_solved : Stmt := top 14
abbrev s_kernel_item : Stmt := top 15
abbrev s_kernel : Stmt := top 16
abbrev sStart : Stmt := top 18
abbrev s_draw : Stmt := top 19
abbrev l_is_integer : Stmt := top 20
abbrev l_rank : Stmt := top 21
abbrev l_right : Stmt := top 22
abbrev l_rows : Stmt := top 23
abbrev l_change_length : Stmt := top 24
abbrev sLaw : Stmt := top 25
abbrev n_sOutOfRange_init : List Str := ["self", "value"]
theorem c_sOutOfRange_init : FnScope n_sOutOfRange_init ["self", "value"] (defScope sOutOfRange_init) := ⟨rfl, rfl, rfl, by decide +kernel, rfl, by decide +kernel, by decide +kernel⟩
abbrev n_sBadLength_init : List Str := ["self", "length"]
theorem c_sBadLength_init : FnScope n_sBadLength_init ["self", "length"] (defScope sBadLength_init) := ⟨rfl, rfl, rfl, by decide +kernel, rfl, by decide +kernel, by decide +kernel⟩
abbrev n_s_common_divisor : List Str := ["first", "second"]
theorem c_s_common_divisor : FnScope n_s_common_divisor ["first", "second"] (defScope s_common_divisor) := ⟨rfl, rfl, rfl, by decide +kernel, rfl, by decide +kernel, by decide +kernel⟩
abbrev n_s_common_multiple : List Str := ["numbers", "multiple", "number"]
theorem c_s_common_multiple : FnScope n_s_common_multiple ["numbers"] (defScope s_common_multiple) := ⟨rfl, rfl, rfl, by decide +kernel, rfl, by decide +kernel, by decide +kernel⟩
abbrev n_s_check_lengths : List Str := ["columns", "length", "column"]
theorem c_s_check_lengths : FnScope n_s_check_lengths ["columns", "length"] (defScope s_check_lengths) := ⟨rfl, rfl, rfl, by decide +kernel, rfl, by decide +kernel, by decide +kernel⟩
abbrev n_s_shortened : List Str := ["row", "divisor", "item"]
theorem c_s_shortened : FnScope n_s_shortened ["row"] (defScope s_shortened) := ⟨rfl, rfl, rfl, by decide +kernel, rfl, by decide +kernel, by decide +kernel⟩
abbrev n_s_cleared : List Str := ["row", "known", "place", "items", "item", "other"]
theorem c_s_cleared : FnScope n_s_cleared ["row", "known", "place"] (defScope s_cleared) := ⟨rfl, rfl, rfl, by decide +kernel, rfl, by decide +kernel, by decide +kernel⟩
abbrev n_s_first_place : List Str := ["row", "place", "item"]
theorem c_s_first_place : FnScope n_s_first_place ["row"] (defScope s_first_place) := ⟨rfl, rfl, rfl, by decide +kernel, rfl, by decide +kernel, by decide +kernel⟩
abbrev n_s_solved : List Str := ["rows", "solved", "row", "rest", "place", "known", "lead"]
theorem c_s_solved : FnScope n_s_solved ["rows"] (defScope s_solved) := ⟨rfl, rfl, rfl, by decide +kernel, rfl, by decide +kernel, by decide +kernel⟩
abbrev n_s_kernel_item : List Str := ["solved", "width", "free", "multiple", "place", "row", "items"]
theorem c_s_kernel_item : FnScope n_s_kernel_item ["solved", "width", "free"] (defScope s_kernel_item) := ⟨rfl, rfl, rfl, by decide +kernel, rfl, by decide +kernel, by decide +kernel⟩
abbrev n_s_kernel : List Str := ["rows", "width", "solved", "places", "place", "_", "free"]
theorem c_s_kernel : FnScope n_s_kernel ["rows", "width"] (defScope s_kernel) := ⟨rfl, rfl, rfl, by decide +kernel, rfl, by decide +kernel, by decide +kernel⟩
abbrev n_l_is_integer : List Str := ["_law_actual"]
theorem c_l_is_integer : FnScope n_l_is_integer ["_law_actual"] (defScope l_is_integer) := ⟨rfl, rfl, rfl, by decide +kernel, rfl, by decide +kernel, by decide +kernel⟩
abbrev n_l_rank : List Str := ["_law_table", "_law_size", "_law_row", "_law_rank_here", "_law_spot", "_law_found", "_law_k", "_law_lead", "_law_top", "_law_other", "_law_factor", "_law_at"]
theorem c_l_rank : FnScope n_l_rank ["_law_table", "_law_size"] (defScope l_rank) := ⟨rfl, rfl, rfl, by decide +kernel, rfl, by decide +kernel, by decide +kernel⟩
abbrev n_l_right : List Str := ["_law_table", "_law_size", "_law_actual", "_law_vector", "_law_item", "_law_row", "_law_k"]
theorem c_l_right : FnScope n_l_right ["_law_table", "_law_size", "_law_actual"] (defScope l_right) := ⟨rfl, rfl, rfl, by decide +kernel, rfl, by decide +kernel, by decide +kernel⟩
abbrev n_l_rows : List Str := ["_law_state", "_law_count", "_law_size", "_law_scale", "_law_table", "_law_turn", "_law_copied", "_law_row", "_law_at", "_law_sign", "_law_chosen", "_law_item"]
theorem c_l_rows : FnScope n_l_rows ["_law_state", "_law_count", "_law_size"] (defScope l_rows) := ⟨rfl, rfl, rfl, by decide +kernel, rfl, by decide +kernel, by decide +kernel⟩
abbrev n_l_change_length : List Str := ["_law_state", "_law_row"]
theorem c_l_change_length : FnScope n_l_change_length ["_law_state", "_law_row"] (defScope l_change_length) := ⟨rfl, rfl, rfl, by decide +kernel, rfl, by decide +kernel, by decide +kernel⟩
abbrev n_sLaw : List Str := ["_law_script", "_law_state", "_law_size", "_law_count", "_law_wrong", "_law_table", "_law_first", "_law_second", "_law_passed", "_law_row", "_law_length", "_law_actual", "e"]
theorem c_sLaw : FnScope n_sLaw ["_law_script"] (defScope sLaw) := ⟨rfl, rfl, rfl, by decide +kernel, rfl, by decide +kernel, by decide +kernel⟩
end OS

namespace OS
open PySem L2
/-! ### the drawing state: a list of great cells, a list of cells, a count -/
theorem get_list {X : Cx} : PGet X (fun o i H Q => ∃ p xs k v, o = .ref p ∧ i = .int k ∧ SqL X.K H p xs ∧ 0 ≤ k ∧ k < 2 ^ 63 ∧ xs[k.toNat]? = some v ∧ Q v H) := by
  intro pins s σ H o i ov iv Q I ro ri h
  obtain ⟨p, xs, k, v, rfl, rfl, hS, h0, h1, hv, q⟩ := h
  cases ro
  obtain ⟨t, rfl⟩ := ri
  obtain ⟨its, r, pl, hz⟩ := Inv.list I hS
  obtain ⟨u, hu, ru⟩ := Vals.get r hv
  exact wpAny_getItem_list pl.isList h0 h1 (by rw [List.getElem?_toArray]; exact hu) ⟨v, H, I, ru, q⟩
structure BiD (mg : Str → Option Value) : Prop where
  len : mg "len" = none
  int : mg "int" = none
  abs : mg "abs" = none
  list : mg "list" = none
def DrIs (H : Hp) (st b : Addr) : Prop := ∃ x y z : V, H st = some (.lst [x, y, z]) ∧ (x = .ref b ∨ y = .ref b)
def DrOwn (st : Addr) (H : Hp) (b : Addr) (o : HO) : Prop := H b = some o ∧ b ≠ st ∧ ¬ DrIs H st b
/-- what is neither the state nor its great cells stays -/
def DrK (st : Addr) (H H' : Hp) : Prop := ∀ b o, DrOwn st H b o → DrOwn st H' b o
theorem DrK.refl {st : Addr} (H : Hp) : DrK st H H := fun _ _ h => h
theorem DrK.trans {st : Addr} {H H1 H2 : Hp} (a : DrK st H H1) (b : DrK st H1 H2) : DrK st H H2 := fun x o h => b x o (a x o h)
structure DrS (H : Hp) (st bl cl : Addr) (c : Int) (bs ns : List Int) : Prop where
  s : H st = some (.lst [.ref bl, .ref cl, .int c])
  b : H bl = some (.lst (bs.map V.int))
  k : H cl = some (.lst (ns.map V.int))
  nb : st ≠ bl
  nc : st ≠ cl
  bc : bl ≠ cl
structure DrAt (H : Hp) (st : Addr) (m : Nat) : Prop where
  ex : ∃ (bl cl : Addr) (c : Int) (bs ns : List Int), DrS H st bl cl c bs ns ∧ 0 ≤ c ∧ c ≤ m ∧ bs.length ≤ 63 ∧ 0 < ns.length ∧ ns.length ≤ 64
theorem DrAt.mono {H : Hp} {st : Addr} {m n : Nat} (S : DrAt H st m) (h : m ≤ n) : DrAt H st n := by
  obtain ⟨bl, cl, c, bs, ns, x, a, b, d⟩ := S.ex
  exact ⟨bl, cl, c, bs, ns, x, a, by omega, d⟩
theorem DrAt.there {H : Hp} {st : Addr} {m : Nat} (S : DrAt H st m) : ∃ o, H st = some o := by
  obtain ⟨bl, cl, c, bs, ns, x, _⟩ := S.ex
  exact ⟨_, x.s⟩
theorem DrS.new {H : Hp} {st bl cl D : Addr} {c : Int} {bs ns : List Int} (x : DrS H st bl cl c bs ns) {o : HO} (h : H D = none) : DrS (L2.upd H D o) st bl cl c bs ns :=
  ⟨by rw [upd_ne (ne_of_none x.s h)]; exact x.s, by rw [upd_ne (ne_of_none x.b h)]; exact x.b, by rw [upd_ne (ne_of_none x.k h)]; exact x.k, x.nb, x.nc, x.bc⟩
theorem DrAt.new {H : Hp} {st D : Addr} {m : Nat} (S : DrAt H st m) {o : HO} (h : H D = none) : DrAt (L2.upd H D o) st m := by
  obtain ⟨bl, cl, c, bs, ns, x, a⟩ := S.ex
  exact ⟨bl, cl, c, bs, ns, x.new h, a⟩
theorem is_upd {H : Hp} {st D b : Addr} {o : HO} (h : st ≠ D) : DrIs (L2.upd H D o) st b → DrIs H st b := by
  rintro ⟨x, y, z, e, r⟩
  rw [upd_ne h] at e
  exact ⟨x, y, z, e, r⟩
theorem DrK.new {H : Hp} {st D : Addr} {o u : HO} (hs : H st = some u) (h : H D = none) : DrK st H (L2.upd H D o) := fun b v ⟨e, n, i⟩ =>
  ⟨by rw [upd_ne (ne_of_none e h)]; exact e, n, fun z => i (is_upd (ne_of_none hs h) z)⟩
/-- what is put in place of an own object: all others stay -/
theorem DrS.own {H : Hp} {st bl cl : Addr} {c : Int} {bs ns : List Int} (x : DrS H st bl cl c bs ns) : DrIs H st bl := ⟨_, _, _, x.s, .inl rfl⟩
theorem DrS.ownc {H : Hp} {st bl cl : Addr} {c : Int} {bs ns : List Int} (x : DrS H st bl cl c bs ns) : DrIs H st cl := ⟨_, _, _, x.s, .inr rfl⟩
theorem DrK.st {H : Hp} {st bl cl : Addr} {c d : Int} {bs ns : List Int} (x : DrS H st bl cl c bs ns) : DrK st H (L2.upd H st (.lst [.ref bl, .ref cl, .int d])) := fun b v ⟨e, n, i⟩ =>
  ⟨by rw [upd_ne n]; exact e, n, fun ⟨p, q, r, z, t⟩ => by
    rw [upd_same] at z
    cases z
    rcases t with t | t <;> cases t
    · exact i x.own
    · exact i x.ownc⟩
theorem DrK.bl {H : Hp} {st bl cl : Addr} {c : Int} {bs ns : List Int} {o : HO} (x : DrS H st bl cl c bs ns) : DrK st H (L2.upd H bl o) := fun b v ⟨e, n, i⟩ =>
  ⟨by rw [upd_ne (fun z => by subst z; exact i x.own)]; exact e, n, fun z => i (is_upd x.nb z)⟩
theorem DrS.st {H : Hp} {st bl cl : Addr} {c d : Int} {bs ns : List Int} (x : DrS H st bl cl c bs ns) : DrS (L2.upd H st (.lst [.ref bl, .ref cl, .int d])) st bl cl d bs ns :=
  ⟨upd_same, by rw [upd_ne x.nb.symm]; exact x.b, by rw [upd_ne x.nc.symm]; exact x.k, x.nb, x.nc, x.bc⟩
theorem DrS.bl {H : Hp} {st bl cl : Addr} {c : Int} {bs cs ns : List Int} (x : DrS H st bl cl c bs ns) : DrS (L2.upd H bl (.lst (cs.map V.int))) st bl cl c cs ns :=
  ⟨by rw [upd_ne x.nb]; exact x.s, upd_same, by rw [upd_ne x.bc.symm]; exact x.k, x.nb, x.nc, x.bc⟩
theorem DrS.next {H : Hp} {st bl cl p : Addr} {c : Int} {bs cs ns : List Int} (x : DrS H st bl cl c bs ns) (hp : H p = none) : DrS (L2.upd (L2.upd H p (.lst (cs.map V.int))) st (.lst [.ref p, .ref cl, .int c])) st p cl c cs ns :=
  ⟨upd_same, by rw [upd_ne (ne_of_none x.s hp).symm, upd_same], by rw [upd_ne x.nc.symm, upd_ne (ne_of_none x.k hp)]; exact x.k, ne_of_none x.s hp, x.nc, (ne_of_none x.k hp).symm⟩
theorem DrK.next {H : Hp} {st bl cl p : Addr} {c : Int} {bs ns : List Int} {o : HO} (x : DrS H st bl cl c bs ns) (hp : H p = none) : DrK st H (L2.upd (L2.upd H p o) st (.lst [.ref p, .ref cl, .int c])) := fun b v ⟨e, n, i⟩ =>
  ⟨by rw [upd_ne n, upd_ne (ne_of_none e hp)]; exact e, n, fun ⟨y, z, r, q, t⟩ => by
    rw [upd_same] at q
    cases q
    rcases t with t | t <;> cases t
    · rw [hp] at e
      cases e
    · exact i x.ownc⟩
theorem fmod_in {i j : Int} (h : 0 < j) : 0 ≤ i.fmod j ∧ i.fmod j < j := ⟨Int.fmod_nonneg_of_pos _ h, Int.fmod_lt_of_pos _ h⟩
theorem getD_int {ns : List Int} {k : Int} (h0 : 0 ≤ k) (h1 : k < (ns.length : Int)) : ∃ z : Int, (ns.map V.int)[k.toNat]? = some (V.int z) ∧ ns[k.toNat]? = some z := by
  have hk : k.toNat < ns.length := by omega
  refine ⟨ns[k.toNat], ?_, List.getElem?_eq_getElem hk⟩
  rw [List.getElem?_map, List.getElem?_eq_getElem hk]
  rfl
theorem atI_in {α : Type} {xs : List α} {k : Int} {v : α} (h0 : 0 ≤ k) (h : xs[k.toNat]? = some v) : atI xs k = some v := by
  have := atI_nat h
  rwa [Int.toNat_of_nonneg h0] at this
theorem ints_dp {K : PySem.W.Frag} {H : Hp} : ∀ (ns : List Int), DpAll K H (ns.map V.int) (ns.map PyData.int)
  | [] => .nil
  | n :: ns => .cons (.int n) (ints_dp ns)
theorem ints_shaped : ∀ l : List Int, PyData.canLayAll0 (l.map PyData.int) = true ∧ PyData.depthAll (l.map PyData.int) ≤ 1
  | [] => ⟨rfl, by simp [PyData.depthAll]⟩
  | j :: l => by
    obtain ⟨h1, h2⟩ := ints_shaped l
    refine ⟨?_, ?_⟩
    · rw [List.map_cons]; unfold PyData.canLayAll0; rw [h1]; rfl
    · rw [List.map_cons]; unfold PyData.depthAll; simp only [PyData.depth]; omega
theorem intsL_shaped (l : List Int) : PySem.SeqAt.shaped (.list (l.map PyData.int)) = true := by
  obtain ⟨h1, h2⟩ := ints_shaped l
  unfold SeqAt.shaped
  simp only [PyData.canLay0, PyData.depth, h1, Bool.true_and, Bool.and_true]
  first
    | exact decide_eq_true (by omega)
    | (simp; omega)
theorem eqv_nil (l : List Int) : PyData.eqv (.list (l.map PyData.int)) (.list []) = l.isEmpty := by
  cases l with
  | nil => decide +kernel
  | cons x l => simp [PyData.eqv, PyData.eqvAll]
end OS

namespace OS
open PySem L2
def spDraw : Sp := fun vs H Q _ => ∃ (st : Addr) (m : Nat) (size : Int), vs = [.ref st, .int size] ∧ DrAt H st m ∧ m ≤ 1000000000 ∧ 0 < size ∧ size < 18446744073709551616 ∧
  ∀ (n : Int) (H' : Hp), 0 ≤ n → n < size → DrAt H' st (m + 1) → DrK st H H' → Q (.int n) H'
def spStartD (K : PySem.W.Frag) : Sp := fun vs H Q _ => ∃ (a : Addr) (ns : List Int), vs = [.ref a] ∧ SqL K H a (ns.map V.int) ∧ ns.length ≤ 63 ∧
  ∀ (st : Addr) (H' : Hp), DrAt H' st 0 → Same H H' → H st = none → (∀ b o, H b = some o → DrOwn st H' b o) → Q (.ref st) H'
section
variable {P : Program} {w : World} {K : PySem.W.Frag} {mg : Str → Option Value} {base : Heap}
abbrev nDraw : List Str := ["_law_state", "_law_size", "_law_digit", "_law_cell", "_law_one"]
theorem scDraw : FnScope nDraw ["_law_state", "_law_size"] (defScope s_draw) := ⟨rfl, rfl, rfl, by decide +kernel, rfl, by decide +kernel, by decide +kernel⟩
theorem ok_draw {f : Addr} {fd : FuncData} (F : Fun K "_law_draw" "_law_draw" s_draw f fd) (T : BiD mg) : FnOk P w K mg base CX0 1 f fd ["_law_state", "_law_size"] spDraw := by
  refine F.ok scDraw (fun vs H Q E h => ?_) (fun cdv A outer s H vs Q E hr h => ?_)
  · obtain ⟨st, m, size, rfl, _⟩ := h
    rfl
  · obtain ⟨st, m, size, rfl, S, hm, hl0, hl1, k⟩ := h
    obtain ⟨bl, cl, c, bs, ns, x, hc0, hc1, hb, hn0, hn⟩ := S.ex
    refine ⟨_, pss_cons (ps_augS (pv 0) pe_int get_list pe_int ip_add set_list)
      (C8.pss_cut (ps_while PassesOwn.never (PW.pt (pw_and (pt_cmpR (op_neD hr.units) (pe_ix ix_list (pv 0) pe_int fun _ _ => rfl) (pe_lst pa_nil) (nomark _)) (pw_and1 (pt_cmpR op_eq (pe_ix ix_list (pe_ix ix_list (pv 0) pe_int fun _ _ => rfl) pe_int fun _ _ => rfl) pe_int (nomark _)))))
        (pss_one (ps_asg (pe_slice sl_list (pe_ix ix_list (pv 0) pe_int fun _ _ => rfl) (po_some pe_int) po_none) (pg_sub (pv 0) pe_int set_list))))
      (pss_cons (ps_if (pt_cmpR (op_neD hr.units) (pe_ix ix_list (pv 0) pe_int fun _ _ => rfl) (pe_lst pa_nil) (nomark _))
        (pss_cons (ps_set (i := 2) scDraw.nd rfl (Or.inl rfl) (pe_op op_modN (pe_callTy call_int1 (by rfl) T.int (by decide +kernel) (pa_cons (pe_ix ix_list (pe_ix ix_list (pv 0) pe_int fun _ _ => rfl) pe_int fun _ _ => rfl) pa_nil)) (pv 1)))
        (pss_cons (ps_asg (pe_op op_fdivW (pe_ix ix_list (pe_ix ix_list (pv 0) pe_int fun _ _ => rfl) pe_int fun _ _ => rfl) (pv 1)) (pg_sub (pe_ix ix_list (pv 0) pe_int fun _ _ => rfl) pe_int set_list))
        (pss_one (ps_ret (pv 2))))) pss_nil)
      (pss_cons (ps_set (i := 3) scDraw.nd rfl (Or.inl rfl) (pe_op op_modN (pe_callTy call_int1 (by rfl) T.int (by decide +kernel) (pa_cons (pe_ix ix_list (pe_ix ix_list (pv 0) pe_int fun _ _ => rfl) (pe_op op_modN (pe_callTy call_int1 (by rfl) T.int (by decide +kernel) (pa_cons (pe_ix ix_list (pv 0) pe_int fun _ _ => rfl) pa_nil)) (pe_callB call_len_seq (by rfl) T.len PySem.boot_len (pa_cons (pe_ix ix_list (pv 0) pe_int fun _ _ => rfl) pa_nil))) fun _ _ => rfl) pa_nil)) pe_int))
      (pss_cons (ps_set (i := 4) scDraw.nd rfl (Or.inl rfl) (pe_op op_modN (pe_callTy call_int1 (by rfl) T.int (by decide +kernel) (pa_cons (pe_op op_pow (pe_op op_add (pe_op op_add (pe_op op_mul (pv 3) pe_int) (pe_op op_mul (pe_ix ix_list (pv 0) pe_int fun _ _ => rfl) pe_int)) pe_int) pe_int) pa_nil)) pe_int))
      (pss_one (ps_ret (pe_op op_modN (pe_op op_modN (pe_callTy call_int1 (by rfl) T.int (by decide +kernel) (pa_cons (pe_op op_pow (pe_op op_add (pe_op op_add (pe_op op_mul (pv 4) pe_int) (pe_op op_mul (pe_ix ix_list (pv 0) pe_int fun _ _ => rfl) pe_int)) pe_int) pe_int) pa_nil)) pe_int) (pv 1)))))))), ?_⟩
    -- state[2] += 1
    refine ⟨_, rfl, st, _, 2, V.int c, rfl, rfl, SqL.of x.s, by decide, by decide, rfl, ?_⟩
    refine ⟨_, _, rfl, rfl, ?_⟩
    refine ⟨st, _, _, 2, rfl, rfl, x.s, rfl, ?_⟩
    have x1 : DrS (L2.upd H st (.lst [.ref bl, .ref cl, .int (c + 1)])) st bl cl (c + 1) bs ns := x.st
    -- the zeros ahead
    let GG : List Int → Hp → Prop := fun bs H' => ∃ bl : Addr, DrS H' st bl cl (c + 1) bs ns ∧ bs.length ≤ 63 ∧ DrK st H H'
    have σ0 : ∀ p : Prop, p → p := fun _ h => h
    refine ⟨fun σ H' => ∃ bs', σ = [some (.ref st), some (.int size), none, none, none] ∧ GG bs' H', ?_, ?_⟩
    · refine ⟨fun n σ H' => ∃ bs', bs'.length = n ∧ σ = [some (.ref st), some (.int size), none, none, none] ∧ GG bs' H', ⟨bs.length, bs, rfl, rfl, bl, x1, hb, DrK.st x⟩, ?_⟩
      rintro n σ H1 ⟨bs1, rfl, rfl, bl1, y, hb1, kd⟩
      refine ⟨_, rfl, st, _, _, V.ref bl1, rfl, rfl, SqL.of y.s, rfl, ?_⟩
      refine ⟨by show 0 ≤ sizeLine; decide, fun l hl => ?_⟩
      have y2 := y.new (o := .lst []) hl
      refine ⟨_, _, .lst (SqL.of y2.b) (ints_dp bs1), .lst (SqL.of upd_same) .nil, intsL_shaped bs1, by decide +kernel, _, rfl, ?_⟩
      rw [eqv_nil]
      have kd2 := kd.trans (DrK.new (o := .lst []) y.s hl)
      cases bs1 with
      | nil =>
        refine iteF ?_
        exact ⟨[], rfl, bl1, y2, hb1, kd2⟩
      | cons b0 br =>
        refine iteT ?_
        refine ⟨_, rfl, st, _, _, V.ref bl1, rfl, rfl, SqL.of y2.s, rfl, bl1, _, _, V.int b0, rfl, rfl, SqL.of y2.b, atI_in (by decide) rfl, ?_⟩
        refine ⟨rfl, _, rfl, ?_⟩
        refine ite2 (fun _ => ?_) (fun _ => ?_)
        · refine ⟨fun σ' H' => ∃ bs', bs'.length = br.length ∧ σ' = [some (.ref st), some (.int size), none, none, none] ∧ GG bs' H', ?_, ?_⟩
          · rintro σ' H' ⟨bs', e, r⟩
            exact ⟨br.length, by simp, bs', e, r⟩
          · refine ⟨_, rfl, st, _, _, V.ref bl1, rfl, rfl, SqL.of y2.s, rfl, ?_⟩
            refine ⟨_, rfl, bl1, _, rfl, SqL.of y2.b, fun p hp => ?_⟩
            have ecut : cutV ((b0 :: br).map V.int) (some 1) none = br.map V.int := by
              have e1 : HT.sIx ((b0 :: br).map V.int).length 0 (some 1) = 1 := by
                unfold HT.sIx
                simp
              unfold cutV
              rw [e1]
              show List.take ((((b0 :: br).map V.int).length) - 1) (List.drop 1 ((b0 :: br).map V.int)) = _
              simp
              exact List.take_of_length_le (by simp)
            rw [ecut]
            have y3 := y2.next (cs := br) hp
            refine ⟨_, rfl, st, _, _, 0, rfl, rfl, by rw [upd_ne (ne_of_none y2.s hp)]; exact y2.s, rfl, ?_⟩
            exact ⟨br, rfl, rfl, p, y3, by simp at hb1; omega, kd2.trans (DrK.next y2 hp)⟩
        · exact ⟨b0 :: br, rfl, bl1, y2, hb1, kd2⟩
    rintro σ1 H1 ⟨bs1, rfl, bl1, y, hb1, kd⟩
    refine ⟨_, rfl, st, _, _, V.ref bl1, rfl, rfl, SqL.of y.s, rfl, ?_⟩
    refine ⟨by show 0 ≤ sizeLine; decide, fun l hl => ?_⟩
    have y2 := y.new (o := .lst []) hl
    have kd2 := kd.trans (DrK.new (o := .lst []) y.s hl)
    refine ⟨_, _, .lst (SqL.of y2.b) (ints_dp bs1), .lst (SqL.of upd_same) .nil, intsL_shaped bs1, by decide +kernel, _, rfl, ?_⟩
    rw [eqv_nil]
    cases bs1 with
    | cons b0 br =>
      refine iteT ?_
      refine ⟨_, rfl, st, _, _, V.ref bl1, rfl, rfl, SqL.of y2.s, rfl, bl1, _, _, V.int b0, rfl, rfl, SqL.of y2.b, atI_in (by decide) rfl, ?_⟩
      refine .inl ⟨_, rfl, ?_⟩
      refine ⟨_, rfl, _, _, rfl, rfl, (by show size ≠ 0; omega), ?_⟩
      obtain ⟨k0, k1⟩ := fmod_in (i := b0) hl0
      refine ⟨_, rfl, st, _, _, V.ref bl1, rfl, rfl, SqL.of y2.s, rfl, bl1, _, _, V.int b0, rfl, rfl, SqL.of y2.b, atI_in (by decide) rfl, ?_⟩
      refine ⟨_, rfl, _, _, rfl, rfl, wide_div (b := 64) hl0 (by omega) (by decide) (by decide), ?_⟩
      refine ⟨_, rfl, st, _, _, V.ref bl1, rfl, rfl, SqL.of y2.s, rfl, ?_⟩
      refine ⟨bl1, _, _, 0, rfl, rfl, y2.b, by show ixN _ 0 = some 0; unfold ixN; rw [if_pos (by decide), if_pos (by simp)]; rfl, ?_⟩
      refine ⟨_, rfl, ?_⟩
      have y3 := y2.bl (cs := b0 / size :: br)
      exact k _ _ k0 k1 ⟨bl1, cl, c + 1, _, ns, y3, by omega, by push_cast; omega, by simp at hb1 ⊢; omega, hn0, hn⟩ (kd2.trans (DrK.bl y2))
    | nil =>
      refine iteF ?_
      have r1 : ∀ i : Int, 0 ≤ i.fmod 2147483647 ∧ i.fmod 2147483647 < 2147483647 := fun i => fmod_in (by decide)
      refine ⟨_, rfl, st, _, _, V.ref cl, rfl, rfl, SqL.of y2.s, rfl, ?_⟩
      refine ⟨_, rfl, st, _, _, V.int (c + 1), rfl, rfl, SqL.of y2.s, rfl, .inl ⟨_, rfl, ?_⟩⟩
      refine ⟨_, rfl, st, _, _, V.ref cl, rfl, rfl, SqL.of y2.s, rfl, ?_⟩
      refine ⟨cl, _, rfl, .inl (SqL.of y2.k), ?_⟩
      have hL : (((ns.map V.int).length : Nat) : Int) = (ns.length : Int) := by rw [List.length_map]
      rw [hL]
      refine ⟨_, _, rfl, rfl, (by show (ns.length : Int) ≠ 0; omega), ?_⟩
      obtain ⟨i0, i1⟩ := fmod_in (i := c + 1) (j := (ns.length : Int)) (by omega)
      obtain ⟨at_, hat⟩ : ∃ a, a = (c + 1).fmod (ns.length : Int) := ⟨_, rfl⟩
      rw [← hat] at i0 i1
      obtain ⟨z, hz1, hz2⟩ := getD_int (ns := ns) (k := at_) i0 i1
      refine ⟨cl, _, at_, V.int z, rfl, (by show V.int _ = V.int _; rw [hat]), SqL.of y2.k, atI_in i0 hz1, ?_⟩
      refine .inl ⟨_, rfl, ?_⟩
      refine ⟨_, _, rfl, rfl, (by show (_ : Int) ≠ 0; decide), ?_⟩
      obtain ⟨y1, hy1⟩ : ∃ y, y = z.fmod 2147483647 := ⟨_, rfl⟩
      obtain ⟨q1, q2⟩ := r1 z
      rw [← hy1] at q1 q2
      rw [show (fun i j => V.int (Int.fmod i j)) z 2147483647 = V.int y1 by rw [hy1]]
      refine ⟨_, rfl, _, _, rfl, rfl, .inl ⟨by omega, by omega⟩, ?_⟩
      refine ⟨_, rfl, st, _, _, V.int (c + 1), rfl, rfl, SqL.of y2.s, rfl, _, _, rfl, rfl, .inl ⟨by omega, by omega⟩, ?_⟩
      refine ⟨_, _, rfl, rfl, _, _, rfl, rfl, ?_⟩
      refine ⟨_, _, rfl, rfl, ⟨by decide, by decide, ?_⟩, .inl ⟨_, rfl, ?_⟩⟩
      · show (y1 * 48271 + (c + 1) * 69621 + 7).natAbs < 2 ^ 64
        omega
      refine ⟨_, _, rfl, rfl, (by show (_ : Int) ≠ 0; decide), ?_⟩
      obtain ⟨q3, q4⟩ := r1 ((y1 * 48271 + (c + 1) * 69621 + 7) ^ (5 : Int).toNat)
      obtain ⟨y3, hy3⟩ : ∃ y, y = ((y1 * 48271 + (c + 1) * 69621 + 7) ^ (5 : Int).toNat).fmod 2147483647 := ⟨_, rfl⟩
      rw [← hy3] at q3 q4
      rw [show (fun i j => V.int (Int.fmod i j)) ((y1 * 48271 + (c + 1) * 69621 + 7) ^ (5 : Int).toNat) 2147483647 = V.int y3 by rw [hy3]]
      refine ⟨_, rfl, _, _, rfl, rfl, .inl ⟨by omega, by omega⟩, ?_⟩
      refine ⟨_, rfl, st, _, _, V.int (c + 1), rfl, rfl, SqL.of y2.s, rfl, _, _, rfl, rfl, .inl ⟨by omega, by omega⟩, ?_⟩
      refine ⟨_, _, rfl, rfl, _, _, rfl, rfl, ?_⟩
      refine ⟨_, _, rfl, rfl, ⟨by decide, by decide, ?_⟩, .inl ⟨_, rfl, ?_⟩⟩
      · show (y3 * 16807 + (c + 1) * 40692 + 13).natAbs < 2 ^ 64
        omega
      refine ⟨_, _, rfl, rfl, (by show (_ : Int) ≠ 0; decide), ?_⟩
      refine ⟨_, rfl, _, _, rfl, rfl, (by show size ≠ 0; omega), ?_⟩
      obtain ⟨k0, k1⟩ := fmod_in (i := ((y3 * 16807 + (c + 1) * 40692 + 13) ^ (5 : Int).toNat).fmod 2147483629) hl0
      exact k _ _ k0 k1 ⟨bl1, cl, c + 1, _, ns, y2, by omega, by push_cast; omega, hb1, hn0, hn⟩ kd2
abbrev nStartD : List Str := ["_law_script", "_law_cell"]
theorem scStartD : FnScope nStartD ["_law_script"] (defScope sStart) := ⟨rfl, rfl, rfl, by decide +kernel, rfl, by decide +kernel, by decide +kernel⟩
theorem ok_startD {f : Addr} {fd : FuncData} (F : Fun K "_law_start" "_law_start" sStart f fd) (T : BiD mg) : FnOk P w K mg base CX0 1 f fd ["_law_script"] (spStartD K) := by
  refine F.ok scStartD (fun vs H Q E h => ?_) (fun cdv A outer s H vs Q E hr h => ?_)
  · obtain ⟨a, ns, rfl, _⟩ := h
    rfl
  · obtain ⟨a, ns, rfl, hS, hn, k⟩ := h
    refine ⟨_, pss_one (ps_ret (pe_lst (pa_cons (pe_lc (own := [("_law_cell", 1)]) (g := gName 1) rfl scStartD.nd (pi_list (pv 0)) (blkOk_by (own := [("_law_cell", 1)]) (N := nStartD) (sc := defScope sStart) (by decide +kernel))
        (fun _ _ _ _ _ => pg_name (i := 1) scStartD.nd rfl (Or.inl rfl)) (fun _ _ _ _ _ => pts_one (pt_cmpR op_ge (pe_callB call_abs (by rfl) T.abs (by decide +kernel) (pa_cons (pv 1) pa_nil)) (pe_op op_pow pe_int pe_int) (nomark _)))
        (fun _ _ _ _ _ => pe_callB call_abs (by rfl) T.abs (by decide +kernel) (pa_cons (pv 1) pa_nil)))
      (pa_cons (pe_op op_cat (pe_callTy call_list_of (by rfl) T.list (by decide +kernel) (pa_cons (pv 0) pa_nil)) (pe_lst (pa_cons pe_int pa_nil))) (pa_cons pe_int pa_nil))))), ?_⟩
    refine ⟨_, rfl, a, rfl, ⟨_, hS⟩, fun D hD => lc_list (K := K) (a := a) (xs := ns.map V.int) (fun i H' => Same H H' ∧ ∃ bs : List Int, H' D = some (.lst (bs.map V.int)) ∧ bs.length ≤ i) ⟨?_, [], ?_, ?_⟩ (fun i H' _ h => h.1.seq hS) ?_ ?_⟩
    · intro b o e
      rw [upd_ne (ne_of_none e hD)]
      exact e
    · rw [upd_same]
      rfl
    · exact Nat.le_refl _
    · intro i x H' hi ⟨s1, bs, s2, s3⟩
      obtain ⟨z, hz, rfl⟩ : ∃ z, ns[i]? = some z ∧ x = V.int z := by
        rw [List.getElem?_map] at hi
        cases e : ns[i]? with
        | none => rw [e] at hi; cases hi
        | some z => rw [e] at hi; exact ⟨z, rfl, (Option.some.inj hi).symm⟩
      have hil : i < ns.length := (List.getElem?_eq_some_iff.mp hz).1
      refine ⟨rfl, ?_⟩
      refine ⟨_, rfl, _, rfl, _, _, rfl, rfl, ⟨by decide, by decide, by decide⟩, _, _, rfl, rfl, _, rfl, ?_⟩
      refine ite2 (fun _ => ?_) (fun _ => ?_)
      · refine ⟨_, rfl, _, rfl, ?_⟩
        refine ⟨_, s2, ?_, ?_, bs ++ [if z < 0 then -z else z], ?_, ?_⟩
        · rw [List.length_map]
          exact small1000 (by omega)
        · intro b o e
          rw [upd_ne (ne_of_none e hD)]
          exact s1 b o e
        · rw [upd_same, List.map_append]
          rfl
        · rw [List.length_append]
          show bs.length + 1 ≤ i + 1
          omega
      · exact ⟨s1, bs, s2, by omega⟩
    · intro H' ⟨s1, bs, s2, s3⟩
      rw [List.length_map] at s3
      refine ⟨_, rfl, a, _, rfl, .inl (s1.seq hS), fun l hl => ?_⟩
      refine ⟨by show 1 ≤ sizeLine; decide, fun l2 hl2 => ?_⟩
      have e1 : (L2.upd (L2.upd H' l (.lst (ns.map V.int))) l2 (.lst [V.int 5])) l = some (.lst (ns.map V.int)) := by
        rw [upd_ne (ne_of_none (o := .lst (ns.map V.int)) upd_same hl2), upd_same]
      refine ⟨l, l2, _, _, rfl, rfl, e1, upd_same, ?_, fun p hp => ?_⟩
      · rw [List.length_map]
        show ns.length + 1 ≤ sizeLine
        exact Nat.le_of_lt (small1000 (by omega))
      refine ⟨by show 3 ≤ sizeLine; decide, fun st hst => ?_⟩
      have hlt : ∀ b o, H' b = some o → b ≠ l ∧ b ≠ l2 ∧ b ≠ p ∧ b ≠ st := by
        intro b o e
        have n1 := ne_of_none e hl
        have e2 : (L2.upd H' l (.lst (ns.map V.int))) b = some o := by rw [upd_ne n1]; exact e
        have n2 := ne_of_none e2 hl2
        have e3 : (L2.upd (L2.upd H' l (.lst (ns.map V.int))) l2 (.lst [V.int 5])) b = some o := by rw [upd_ne n2]; exact e2
        have n3 := ne_of_none e3 hp
        have e4 : (L2.upd (L2.upd (L2.upd H' l (.lst (ns.map V.int))) l2 (.lst [V.int 5])) p (.lst (ns.map V.int ++ [V.int 5]))) b = some o := by rw [upd_ne n3]; exact e3
        exact ⟨n1, n2, n3, ne_of_none e4 hst⟩
      have hps : p ≠ st := ne_of_none upd_same hst
      obtain ⟨d1, d2, d3, d4⟩ := hlt D _ s2
      have x : DrS (L2.upd (L2.upd (L2.upd (L2.upd H' l (.lst (ns.map V.int))) l2 (.lst [V.int 5])) p (.lst (ns.map V.int ++ [V.int 5]))) st (.lst [.ref D, .ref p, .int 0])) st D p 0 bs (ns ++ [5]) := by
        refine ⟨upd_same, ?_, ?_, d4.symm, hps.symm, d3⟩
        · rw [upd_ne d4, upd_ne d3, upd_ne d2, upd_ne d1]
          exact s2
        · rw [upd_ne hps, upd_same, List.map_append]
          rfl
      have keep : ∀ b o, H b = some o → b ≠ D ∧ (L2.upd (L2.upd (L2.upd (L2.upd H' l (.lst (ns.map V.int))) l2 (.lst [V.int 5])) p (.lst (ns.map V.int ++ [V.int 5]))) st (.lst [.ref D, .ref p, .int 0])) b = some o ∧ b ≠ st := by
        intro b o e
        obtain ⟨n1, n2, n3, n4⟩ := hlt b o (s1 b o e)
        refine ⟨ne_of_none e hD, ?_, n4⟩
        rw [upd_ne n4, upd_ne n3, upd_ne n2, upd_ne n1]
        exact s1 b o e
      have hstn : H st = none := by
        cases e : H st with
        | none => rfl
        | some o => exact absurd rfl (keep st o e).2.2
      refine k st _ ⟨D, p, 0, bs, ns ++ [5], x, by decide, by decide, by omega, by simp, by simp; omega⟩ (fun b o e => (keep b o e).2.1) hstn (fun b o e => ⟨(keep b o e).2.1, (keep b o e).2.2, fun ⟨y, z, r, e2, t⟩ => ?_⟩)
      rw [x.s] at e2
      cases e2
      rcases t with t | t <;> cases t
      · exact (keep _ o e).1 rfl
      · exact (hlt _ o (s1 _ o e)).2.2.1 rfl
end
end OS

/-! ### drawing, over data -/
namespace OS
open PySem L2 OZ
def drawM (st : Addr) : Mode where
  X := fun H b => b = st ∨ DrIs H st b
  S := fun m H => DrAt H st m
  clo := fun m H H' S h => by
    obtain ⟨bl, cl, c, bs, ns, x, r⟩ := S.ex
    have e := h st _ (.inl rfl) x.s
    refine ⟨⟨bl, cl, c, bs, ns, ⟨e, h bl _ (.inr x.own) x.b, h cl _ (.inr x.ownc) x.k, x.nb, x.nc, x.bc⟩, r⟩, fun b hb => ?_⟩
    rcases hb with rfl | ⟨y, z, w, e2, r2⟩
    · exact .inl rfl
    · rw [e] at e2
      exact .inr ⟨y, z, w, by rw [x.s]; exact e2, r2⟩
  there := fun m H b S x => by
    obtain ⟨bl, cl, c, bs, ns, y, r⟩ := S.ex
    rcases x with rfl | ⟨p, q, w, e2, r2⟩
    · exact ⟨_, y.s⟩
    · rw [y.s] at e2
      cases e2
      rcases r2 with z | z
      · cases z; exact ⟨_, y.b⟩
      · cases z; exact ⟨_, y.k⟩
def FDraw (st : Addr) : FD := fun ds KR _ m => ∃ lim, ds = [.ref st, .int lim] ∧ m ≤ 1000000000 ∧ 0 < lim ∧ lim < 18446744073709551616 ∧ ∀ n, 0 ≤ n → n < lim → KR (.int n) (m + 1)
theorem FDraw.use {st : Addr} {lim : Int} {KR : Da → Nat → Prop} {KE : Kx} {m : Nat} (hm : m ≤ 1000000000) (h0 : 0 < lim) (h1 : lim < 18446744073709551616) (k : ∀ n, 0 ≤ n → n < lim → KR (.int n) (m + 1)) : FDraw st [.ref st, .int lim] KR KE m := ⟨lim, rfl, hm, h0, h1, k⟩
theorem draw_ok {B : Bd} {st f : Addr} {fd : FuncData} (F : Fun B.K "_law_draw" "_law_draw" s_draw f fd) (T : BiD B.mg) (hm : B.mg "_law_draw" = some (.ref f)) (hb : Binds B.K fd ["_law_state", "_law_size"] []) : CallG (drawM st) B 1 "_law_draw" 2 (FDraw st) := by
  refine ⟨f, hm, F.kp, CX0, fd, _, (ok_draw F T).imp fun vs H Q E q => ?_, hb, .inl rfl, rfl⟩
  obtain ⟨_, G, m, ds, KR, KE, ok, r, ⟨lim, rfl, h1, h2, h3, k⟩, po, _⟩ := q
  obtain ⟨a, b, rfl, ra, rb⟩ := reps2 r
  cases ra.ref_inv
  cases rb.int_inv
  refine ⟨st, m, lim, rfl, ok.inv, h1, h2, h3, fun n H' n0 n1 S kb => ?_⟩
  have own : ∀ c o, H c = some o → ¬ (drawM st).X H c → DrOwn st H c o := fun c o e n => ⟨e, fun z => n (.inl z), fun z => n (.inr z)⟩
  have g : ∀ c o, G c = some o → ¬ (drawM st).X H c := fun c o e x => by rw [ok.off _ x] at e; cases e
  refine po (.int n) (.int n) (m + 1) G H' (k n n0 n1) ⟨fun c o e => (kb c o (own c o (ok.sub _ _ e) (g c o e))).1, S, fun c x => ?_, Same.refl _, fun c o e n => ?_, fun c o _ _ z => z⟩ (.int n)
  · cases e : G c with
    | none => rfl
    | some o =>
      have := kb c o (own c o (ok.sub _ _ e) (g c o e))
      rcases x with z | z
      · exact absurd z this.2.1
      · exact absurd z this.2.2
  · have := kb c o (own c o e n)
    refine ⟨this.1, fun x => ?_⟩
    rcases x with z | z
    · exact this.2.1 z
    · exact this.2.2 z
/-- the law, behind the start of its drawing -/
theorem law_draw {B : Bd} {f fS : Addr} {fd dS : FuncData} {k : Nat} {N : List Str} {rest : List Stmt} {p1 p2 p3 p4 p5 : Pos} (Fn : Fun B.K "law" "law" sLaw f fd) (S : FnScope ("_law_script" :: "_law_state" :: N) ["_law_script"] (defScope sLaw))
    (hb : defBody sLaw = .Assign [.Name "_law_state" p1] (.Call (.Name "_law_start" p2) [.Name "_law_script" p3] [] p4) p5 :: rest)
    (ES : FnOk B.P B.w B.K B.mg B.base CX0 1 fS dS ["_law_script"] (spStartD B.K)) (mS : B.mg "_law_start" = some (.ref fS)) (kS : PySem.W.keepIn B.K (.ref fS) = true) (bS : Binds B.K dS ["_law_script"] [])
    (hg : (defScope sLaw).names.lookup ("_law_start" : Str) = some .globalImplicit) (hv : (defScope sLaw).names.lookup ("_law_script" : Str) = some .local) (hst : Loc (defScope sLaw) "_law_state")
    (hsw : ∀ X : Cx, X.env.scope = defScope sLaw → swapsWith (.Call (.Name "_law_start" p2) [.Name "_law_script" p3] [] p4) (some (.Name "_law_state" p1)) p5.line X.env = pure false)
    (h : ∀ (X : Cx) (st : Addr), (∃ cdv A outer s H E, X = (cxOf CX0 B.P B.w B.K B.mg B.base ("_law_script" :: "_law_state" :: N) "law" (defScope sLaw) f cdv A outer s H E).nox) → Ctx X ("_law_script" :: "_law_state" :: N) (defScope sLaw) B → Room k X.A →
      OZ.StD (drawM st) X (fun _ => K0) rest (.un :: .v (.ref st) :: List.replicate N.length .un) { nx := fun _ _ => False, rt := fun d _ => d = .bl true } 0) (hk : 1 ≤ k) :
    FnOk B.P B.w B.K B.mg B.base CX0 (k + 1) f fd ["_law_script"] (OZ.spLaw B.K) := by
  refine Fn.ok S (fun vs H Q E q => ?_) (fun cdv A outer s H vs Q E hr q => ?_)
  · obtain ⟨a, ns, rfl, _⟩ := q
    rfl
  · obtain ⟨a, ns, rfl, hS, hn, kk⟩ := q
    rw [hb]
    refine ⟨_, pss_cons (ps_set (hf := .inl rfl) (i := 1) S.nd rfl hst (pe_call ES (hr.mono hk) hg mS kS bS .nil pass0 (pa_cons (pe_var (i := 0) rfl (.inl hv)) pa_nil)) (hsw _ rfl)) pss_wp, ?_⟩
    refine ⟨_, rfl, a, ns, rfl, hS, hn, fun st H' sa s' e1 e2 => ?_⟩
    refine h (cxOf CX0 B.P B.w B.K B.mg B.base ("_law_script" :: "_law_state" :: N) "law" (defScope sLaw) f cdv A outer s H E).nox st ⟨cdv, A, outer, s, H, E, rfl⟩ ⟨rfl, rfl, S.nd, rfl⟩ hr (fun _ => none) H' (fun _ => none) H' _ (fun _ _ _ _ => False) _
      ⟨(fun _ _ z => nomatch z), sa, fun _ _ => rfl, Same.refl _, fun _ _ e n => ⟨e, n⟩, fun _ _ _ _ z => z⟩ ?_ ⟨takes0, fun _ _ _ _ _ _ _ _ z => z.elim⟩ ⟨fun _ _ _ _ _ z => z.elim, ?_, fun _ _ _ _ _ z => z.elim, fun _ _ _ _ _ z => z.elim, fun _ _ _ _ _ z => z.elim⟩
    · have e : ∀ n : Nat, Paired (RelSl B.K (drawM st) H' (fun _ => none) H') (List.replicate n none) (List.replicate n .un) := fun n => by
        induction n with
        | zero => exact .nil
        | succ n ih => rw [List.replicate_succ, List.replicate_succ]; exact .cons trivial ih
      refine ⟨?_, fun i j a ⟨q, d, hd⟩ => ?_⟩
      · show Paired _ (some (V.ref a) :: some (V.ref st) :: List.replicate _ none) _
        refine .cons trivial (.cons ⟨_, rfl, .ref st⟩ ?_)
        have : ("_law_script" :: "_law_state" :: N : List Str).length - [V.ref a].length - 1 = N.length := by simp
        exact e N.length
      · have hm : Sl.mm q d ∈ (Sl.un :: Sl.v (.ref st) :: List.replicate N.length .un) := List.mem_of_getElem? hd
        simp at hm
    · rintro v d m G H2 rfl ok r
      cases r.bl_inv
      exact kk H2
end OS

section
open PySem L2 OZ
-- MACROS
local macro_rules | `(tactic| fail "zn") => `(tactic| (repeat (first | with_reducible exact EnvAt.here | with_reducible apply EnvAt.there)))
local macro_rules | `(tactic| fail "zs") => `(tactic| (repeat (first | with_reducible exact EnvSet.here | with_reducible apply EnvSet.there)))
local macro_rules | `(tactic| fail "zo") => `(tactic| with_unfolding_all first | decide | omega)
local macro_rules | `(tactic| fail "za") => `(tactic| with_reducible assumption)
local macro_rules | `(tactic| fail "zdp") => `(tactic| first | exact Nat.le_of_ble_eq_true (by with_unfolding_all rfl) | exact dpt_le (Nat.le_trans (dpts_le _ 9 (fun _ => Nat.le_of_ble_eq_true (by with_unfolding_all rfl)) _) (Nat.le_of_ble_eq_true rfl)) | exact dpt_leT (Nat.le_trans (dpts_le _ 9 (fun _ => Nat.le_of_ble_eq_true (by with_unfolding_all rfl)) _) (Nat.le_of_ble_eq_true rfl)))
local macro_rules | `(tactic| fail "zpl") => `(tactic| with_unfolding_all first | rfl | exact plDs_map _ (fun _ => rfl) _ | (simp only [OZ.plD, OZ.plDs, Bool.and_true, Bool.true_and, Bool.and_eq_true] <;> decide +kernel))
local macro_rules | `(tactic| fail "zop") => `(tactic| first
  | with_reducible refine opd_add ?_
  | with_reducible refine opd_sub ?_
  | with_reducible refine opd_lt ?_
  | with_reducible refine opd_le ?_
  | with_reducible refine opd_gt ?_
  | with_reducible refine opd_ge ?_
  | with_reducible refine opd_eqI ?_
  | with_reducible refine opd_neI ?_
  | with_reducible refine opd_eqS ?_
  | with_reducible refine opd_neS ?_
  | with_reducible refine opd_eqB ?_
  | with_reducible refine opd_neB ?_
  | with_reducible refine opd_mul (by first | exact cmul_l (by fail "zo") (by fail "zo") | exact cmul_r (by fail "zo") (by fail "zo")) ?_
  | with_reducible refine opd_mod (by fail "zo") ?_
  | with_reducible refine opd_fdiv (by exact cdiv_s (by fail "zo") (by fail "zo")) ?_
  | with_reducible refine opd_pow (by exact cpow_s (by fail "zo") (by fail "zo") (by fail "zo") (by fail "zo")) ?_
  | ((with_reducible first | show OpD _ _ _ (compareOp .Eq) (.tup _) (.tup _) _ _ | show OpD _ _ _ (compareOp .Eq) (.lst _) (.lst _) _ _); with_reducible refine opd_eq (L2.Room.units (by fail "za")) (by fail "zpl") (by fail "zpl") (by fail "zdp") (by fail "zdp") ?_)
  | ((with_reducible first | show OpD _ _ _ (compareOp .NotEq) (.tup _) (.tup _) _ _ | show OpD _ _ _ (compareOp .NotEq) (.lst _) (.lst _) _ _); with_reducible refine opd_ne (L2.Room.units (by fail "za")) (by fail "zpl") (by fail "zpl") (by fail "zdp") (by fail "zdp") ?_)
  | with_reducible refine opd_shr (by fail "zo") ?_
  | with_reducible refine opd_cat (by fail "zsz") ?_
  | with_reducible refine opd_catT (by fail "zsz") ?_
  | ((with_reducible show OpD _ _ _ (compareOp .Eq) (.obj _ _) (.obj _ _) _ _); with_reducible refine opd_eqG (by fail "za") (by fail "za") (by fail "za") ?_)
  | ((with_reducible show OpD _ _ _ (compareOp .NotEq) (.obj _ _) (.obj _ _) _ _); with_reducible refine opd_neG (by fail "za") (by fail "za") (by fail "za") ?_)
  | ((with_reducible show OpD _ _ _ (binaryOp .Mult) (.obj _ _) (.obj _ _) _ _); with_reducible refine opd_mulG (by fail "za") (by fail "za") (by fail "za") (by fail "za") ?_)
  | ((with_reducible show OpD _ _ _ (binaryOp .Add) (.obj _ _) (.obj _ _) _ _); with_reducible refine opd_addG (by fail "za") (by fail "za") (by fail "za") (by fail "za") ?_)
  | ((with_reducible show OpD _ _ _ (binaryOp .Sub) (.obj _ _) (.obj _ _) _ _); with_reducible refine opd_subG (by fail "za") (by fail "za") (by fail "za") (by fail "za") ?_)
  | with_reducible refine opd_inKS (by fail "za") ?_
  | with_reducible refine opd_ninKS (by fail "za") ?_
  | ((with_reducible show OpD _ _ _ (binaryOp .Mult) (.obj _ _) (.int _) _ _); with_reducible refine opd_mulOI (by fail "za") (by fail "za") (by fail "za") (by fail "za") ?_)
  | ((with_reducible show OpD _ _ _ (binaryOp .Add) (.obj _ _) (.int _) _ _); with_reducible refine opd_addOI (by fail "za") (by fail "za") (by fail "za") (by fail "za") ?_)
  | ((with_reducible show OpD _ _ _ (binaryOp .Sub) (.obj _ _) (.int _) _ _); with_reducible refine opd_subOI (by fail "za") (by fail "za") (by fail "za") (by fail "za") ?_)
  | with_reducible refine opd_inC ?_
  | with_reducible refine opd_ninC ?_
  | with_reducible refine opd_is ?_
  | with_reducible refine opd_isnot ?_)
local macro_rules | `(tactic| fail "zbn") => `(tactic| first
  | ((with_reducible show EvD _ _ _ (.Call (.Name "len" _) _ _ _) _ _ _); with_reducible refine evd_callB (by fail "za") (Bn.len (by fail "za")) ?_)
  | ((with_reducible show EvD _ _ _ (.Call (.Name "abs" _) _ _ _) _ _ _); with_reducible refine evd_callB (by fail "za") (Bn.abs (by fail "za")) ?_)
  | ((with_reducible show EvD _ _ _ (.Call (.Name "max" _) _ _ _) _ _ _); with_reducible refine evd_callB (by fail "za") (Bn.max (by fail "za")) ?_)
  | ((with_reducible show EvD _ _ _ (.Call (.Name "min" _) _ _ _) _ _ _); with_reducible refine evd_callB (by fail "za") (Bn.min (by fail "za")) ?_)
  | ((with_reducible show EvD _ _ _ (.Call (.Name "sum" _) _ _ _) _ _ _); with_reducible refine evd_callB (by fail "za") (Bn.sum (by fail "za")) ?_)
  | ((with_reducible show EvD _ _ _ (.Call (.Name "any" _) _ _ _) _ _ _); with_reducible refine evd_callB (by fail "za") (Bn.any (by fail "za")) ?_)
  | ((with_reducible show EvD _ _ _ (.Call (.Name "all" _) _ _ _) _ _ _); with_reducible refine evd_callB (by fail "za") (Bn.all (by fail "za")) ?_)
  | ((with_reducible show EvD _ _ _ (.Call (.Name "sorted" _) _ _ _) _ _ _); with_reducible refine evd_callB (by fail "za") (Bn.sorted (by fail "za")) ?_)
  | ((with_reducible show EvD _ _ _ (.Call (.Name "isinstance" _) _ _ _) _ _ _); with_reducible refine evd_callB (by fail "za") (Bn.isinstance (by fail "za")) ?_)
  | ((with_reducible show EvD _ _ _ (.Call (.Name "divmod" _) _ _ _) _ _ _); with_reducible refine evd_callB (by fail "za") (Bn.divmod (by fail "za")) ?_)
  | ((with_reducible show EvD _ _ _ (.Call (.Name "int" _) _ _ _) _ _ _); with_reducible refine evd_callTy (by fail "za") (Bn.int (by fail "za")) ?_)
  | ((with_reducible show EvD _ _ _ (.Call (.Name "tuple" _) _ _ _) _ _ _); with_reducible refine evd_callTy (by fail "za") (Bn.tuple (by fail "za")) ?_)
  | ((with_reducible show EvD _ _ _ (.Call (.Name "list" _) _ _ _) _ _ _); with_reducible refine evd_callTy (by fail "za") (Bn.list (by fail "za")) ?_)
  | ((with_reducible show EvD _ _ _ (.Call (.Name "str" _) _ _ _) _ _ _); with_reducible refine evd_callTy (by fail "za") (Bn.str (by fail "za")) ?_)
  | ((with_reducible show EvD _ _ _ (.Call (.Name "dict" _) _ _ _) _ _ _); with_reducible refine evd_callTy (by fail "za") (Bn.dict (by fail "za")) ?_)
  | ((with_reducible show EvD _ _ _ (.Call (.Name "set" _) _ _ _) _ _ _); with_reducible refine evd_callTy (by fail "za") (Bn.set (by fail "za")) ?_))
local macro_rules | `(tactic| fail "zty") => `(tactic| with_reducible first | exact TyDa.int _ | exact TyDa.bl _ | exact TyDa.str _ | exact TyDa.non | exact TyDa.tup _ | exact TyDa.lst _ | exact TyDa.dct _ | exact TyDa.obj _ (by assumption))
local macro_rules | `(tactic| fail "zcls") => `(tactic| with_reducible first | exact ClsDa.ty _ | exact ClsDa.own _)
local macro_rules | `(tactic| fail "zcall") => `(tactic| first
  | ((with_reducible show EvD _ _ _ (.Call (.Name "len" _) [.Name _ _] [] _) _ _ _); first | with_reducible refine evd_lenB (by fail "za") (by fail "zn") (by fail "zs") ?_ | with_reducible refine evd_lenBK (by fail "za") (by fail "zn") (by fail "zs") ?_)
  | ((with_reducible show EvD _ _ _ (.Call (.Name _ _) (_ :: _) [] _) _ _ _); first
    | with_reducible refine evd_call (by fail "za") (by fail "za") (by fail "za") ?_
    | with_reducible refine evd_callP (by fail "za") (by fail "za") (by fail "za") ?_
    | fail "zbn"
    | with_reducible refine evd_inst (by fail "za") (by fail "za") (by fail "za") ?_
    | with_reducible refine evd_callF (by fail "za") (by fail "za") (by with_unfolding_all assumption) ?_)
  | ((with_reducible show EvD _ _ _ (.Call (.Subscript _ _ _) (_ :: _) [] _) _ _ _); with_reducible refine evd_inst (by fail "za") (by fail "za") (by fail "za") ?_)
  | ((with_reducible show EvD _ _ _ (.Call (.Attribute _ "get" _) [_, _] [] _) _ _ _); first | with_reducible refine evd_get2Own (by fail "za") (by fail "za") (by fail "zn") ?_ | with_reducible refine evd_get2 (by fail "za") ?_)
  | ((with_reducible show EvD _ _ _ (.Call (.Attribute _ "bit_length" _) [] [] _) _ _ _); with_reducible refine evd_bits ?_)
  | ((with_reducible show EvD _ _ _ (.Call (.Attribute _ _ _) [_] [] _) _ _ _); first
    | with_reducible refine evd_cmeth (n := 1) (ks := []) (by fail "za") (by fail "za") (by fail "za") ?_
    | with_reducible refine evd_methN (by fail "za") (by fail "za") ?_)
  | ((with_reducible show EvD _ _ _ (.Call (.Attribute _ _ _) [_] [_] _) _ _ _); first
    | with_reducible refine evd_cmeth (n := 1) (ks := [_]) (by fail "za") (by fail "za") (by fail "za") ?_
    | with_reducible refine evd_methX (ks := [_]) (by fail "za") (by fail "za") ?_)
  | ((with_reducible show EvD _ _ _ (.Call (.Attribute _ _ _) [_, _] [] _) _ _ _); first
    | with_reducible refine evd_cmeth (n := 2) (ks := []) (by fail "za") (by fail "za") (by fail "za") ?_
    | with_reducible refine evd_methN (by fail "za") (by fail "za") ?_)
  | ((with_reducible show EvD _ _ _ (.Call (.Attribute _ _ _) [_, _] [_] _) _ _ _); first
    | with_reducible refine evd_cmeth (n := 2) (ks := [_]) (by fail "za") (by fail "za") (by fail "za") ?_
    | with_reducible refine evd_methX (ks := [_]) (by fail "za") (by fail "za") ?_)
  | ((with_reducible show EvD _ _ _ (.Call (.Attribute _ _ _) [_, _, _] [] _) _ _ _); first
    | with_reducible refine evd_cmeth (n := 3) (ks := []) (by fail "za") (by fail "za") (by fail "za") ?_
    | with_reducible refine evd_methN (by fail "za") (by fail "za") ?_)
  | ((with_reducible show EvD _ _ _ (.Call (.Attribute _ _ _) [_, _, _] [_] _) _ _ _); first
    | with_reducible refine evd_cmeth (n := 3) (ks := [_]) (by fail "za") (by fail "za") (by fail "za") ?_
    | with_reducible refine evd_methX (ks := [_]) (by fail "za") (by fail "za") ?_)
  | ((with_reducible show EvD _ _ _ (.Call (.Attribute _ _ _) [] [] _) _ _ _); first
    | with_reducible refine evd_cmeth0 (ks := []) (by fail "za") (by fail "za") (by fail "za") ?_
    | with_reducible refine evd_meth0X (ks := []) (by fail "za") (by fail "za") ?_)
  | ((with_reducible show EvD _ _ _ (.Call (.Name _ _) (_ :: _) [_] _) _ _ _); first | with_reducible refine evd_callK (ks := [_]) (by fail "za") (by fail "za") (by fail "za") ?_ | with_reducible refine evd_mkX (ks := [_]) (by fail "za") (by fail "za") (by fail "za") (by fail "za") (by fail "za") ?_)
  | ((with_reducible show EvD _ _ _ (.Call (.Name _ _) [] [] _) _ _ _); first
    | with_reducible refine evd_call0 (by fail "za") (by fail "za") (by fail "za") ?_
    | with_reducible refine evd_callP0 (by fail "za") (by fail "za") (by fail "za") ?_))
local macro_rules | `(tactic| fail "zev") => `(tactic| first
  | ((with_reducible show EvD _ _ _ (.Name _ _) _ _ _); first
    | with_reducible refine evd_name (by fail "za") (by fail "zn") ?_
    | with_reducible refine evd_glob (by fail "za") (by fail "za") ?_
    | with_reducible refine evd_gint (by fail "za") (by fail "za") ?_
    | with_reducible refine evd_gstr (by fail "za") (by fail "za") ?_
    | ((with_reducible show EvD _ _ _ (.Name "int" _) _ _ _); with_reducible refine evd_ty (by fail "za") (Bn.int (by fail "za")) ?_)
    | ((with_reducible show EvD _ _ _ (.Name "bool" _) _ _ _); with_reducible refine evd_ty (by fail "za") (Bn.bool (by fail "za")) ?_)
    | ((with_reducible show EvD _ _ _ (.Name "tuple" _) _ _ _); with_reducible refine evd_ty (by fail "za") (Bn.tuple (by fail "za")) ?_)
    | ((with_reducible show EvD _ _ _ (.Name "list" _) _ _ _); with_reducible refine evd_ty (by fail "za") (Bn.list (by fail "za")) ?_)
    | ((with_reducible show EvD _ _ _ (.Name "dict" _) _ _ _); with_reducible refine evd_ty (by fail "za") (Bn.dict (by fail "za")) ?_)
    | ((with_reducible show EvD _ _ _ (.Name "str" _) _ _ _); with_reducible refine evd_ty (by fail "za") (Bn.str (by fail "za")) ?_))
  | with_reducible refine evd_int ?_
  | with_reducible refine evd_str ?_
  | with_reducible refine evd_bl ?_
  | with_reducible refine evd_non ?_
  | ((with_reducible show EvD _ _ _ (.BinOp _ _ _ _) _ _ _); with_reducible refine evd_op ?_)
  | ((with_reducible show EvD _ _ _ (.Compare _ [_] [_] _) _ _ _); with_reducible refine evd_cmp ?_)
  | ((with_reducible show EvD _ _ _ (.Compare _ [_, _] [_, _] _) _ _ _); with_reducible refine evd_chain ?_)
  | ((with_reducible show EvD _ _ _ (.Call _ _ _ _) _ _ _); fail "zcall")
  | ((with_reducible show EvD _ _ _ (.Subscript _ (.Slice none none (some _) _) _) _ _ _); with_reducible refine evd_revL ?_)
  | ((with_reducible show EvD _ _ _ (.Subscript _ (.Slice _ _ none _) _) _ _ _); with_reducible refine evd_slice ?_)
  | ((with_reducible show EvD _ _ _ (.Subscript (.Name _ _) _ _) _ _ _); first | with_reducible refine evd_ixOwnK (by fail "za") (by fail "za") (by fail "zn") ?_ | with_reducible refine evd_ixOwn (by fail "za") (by fail "zn") ?_ | with_reducible refine evd_ix ?_)
  | ((with_reducible show EvD _ _ _ (.Subscript _ _ _) _ _ _); with_reducible refine evd_ix ?_)
  | ((with_reducible show EvD _ _ _ (.Attribute _ _ _) _ _ _); first
    | with_reducible refine evd_xfB (by fail "za") (by fail "za") (by fail "za") ?_
    | with_reducible refine evd_attrB (by fail "za") (by fail "zn") (by fail "zs") ?_
    | with_reducible refine evd_attr (by fail "za") (by fail "za") ?_)
  | ((with_reducible show EvD _ _ _ (.Tuple _ _ _) _ _ _); with_reducible refine evd_tuple ?_)
  | ((with_reducible show EvD _ _ _ (.List _ _) _ _ _); with_reducible refine evd_list ?_)
  | ((with_reducible show EvD _ _ _ (.Dict [_] [_] _) _ _ _); with_reducible refine evn_d (evn_disp1 ?_))
  | ((with_reducible show EvD _ _ _ (.Dict [_, _] [_, _] _) _ _ _); with_reducible refine evn_d (evn_disp2 ?_))
  | ((with_reducible show EvD _ _ _ (.Dict [] [] _) _ _ _); with_reducible refine evn_d (evn_dict0 ?_))
  | ((with_reducible show EvD _ _ _ (.UnaryOp _ _ _) _ _ _); first | ((with_reducible show EvD _ _ _ (.UnaryOp .Not _ _) _ _ _); with_reducible refine evd_notV ?_) | with_reducible refine evd_un ?_)
  | ((with_reducible show EvD _ _ _ (.IfExp _ _ _ _) _ _ _); with_reducible refine evd_if ?_)
  | ((with_reducible show EvD _ _ _ (.BoolOp _ _ _) _ _ _); first | with_reducible refine evd_and1 ?_ | with_reducible refine evd_and ?_ | with_reducible refine evd_or ?_))
local macro_rules | `(tactic| fail "zcd") => `(tactic| with_reducible first
  | refine cd_int ?_
  | with_reducible refine cd_intB ?_
  | with_reducible refine cd_lenS (by fail "za") ?_
  | with_reducible refine cd_lenK ?_
  | with_reducible refine cd_dictD ?_
  | with_reducible refine cd_lenQ ?_
  | with_reducible refine cd_tupQ ?_
  | with_reducible refine cd_lstQ ?_
  | with_reducible refine cd_lenL ?_
  | with_reducible refine cd_lenT ?_
  | with_reducible refine cd_tupL ?_
  | with_reducible refine cd_tupT ?_
  | with_reducible refine cd_tupK ?_
  | with_reducible refine cd_lstL ?_
  | with_reducible refine cd_lstT ?_
  | with_reducible refine cd_abs ?_)
local macro_rules | `(tactic| fail "zcd2") => `(tactic| first
  | ((with_reducible show CallD _ _ _ (.builtin "max") [.int _, .int _] _ _); with_reducible refine cd_max2 ?_)
  | ((with_reducible show CallD _ _ _ (.builtin "min") [.int _, .int _] _ _); with_reducible refine cd_min2 ?_))
local macro_rules | `(tactic| fail "zet") => `(tactic| first
  | ((with_reducible show EvT _ _ _ (.Name _ _) _ _ _); with_reducible refine evt_nameB (by fail "za") (by fail "zn") (by fail "zs") ?_)
  | ((with_reducible show EvT _ _ _ (.Compare (.Name _ _) [_] [_] _) _ _ _); first | with_reducible refine evt_cmpLB (by fail "za") (by fail "zn") (by fail "zs") ?_ | with_reducible refine evt_cmpLBK (by fail "za") (by fail "zn") (by fail "zs") ?_)
  | ((with_reducible show EvT _ _ _ (.Compare _ [_] [.Name _ _] _) _ _ _); first | with_reducible refine evt_cmpRB (by fail "za") (by fail "zn") (by fail "zs") ?_ | with_reducible refine evt_cmpRBK (by fail "za") (by fail "zn") (by fail "zs") ?_)
  | ((with_reducible show EvT _ _ _ (.Compare _ [_] [_] _) _ _ _); with_reducible refine evt_cmp ?_)
  | ((with_reducible show EvT _ _ _ (.Compare _ [_, _] [_, _] _) _ _ _); with_reducible refine evt_chainD ?_)
  | ((with_reducible show EvT _ _ _ (.UnaryOp .Not _ _) _ _ _); with_reducible refine evt_not ?_)
  | ((with_reducible show EvT _ _ _ (.BoolOp _ _ _) _ _ _); with_reducible refine evt_w ?_)
  | ((with_reducible show EvT _ _ _ _ _ _ _); with_reducible refine evt_tru ?_)
  | ((with_reducible show EvW _ _ _ _ _ _ _); first | with_reducible refine evw_and1 ?_ | with_reducible refine evw_or1 ?_ | with_reducible refine evw_and ?_ | with_reducible refine evw_or ?_))
local macro_rules | `(tactic| fail "zif") => `(tactic| first
  | ((with_reducible first | show if isNonD _ = true then _ else _ | show if (!isNonD _) = true then _ else _ | show if (!List.isEmpty _) = true then _ else _); first | with_reducible refine zeT (by with_unfolding_all rfl) ?_ | with_reducible refine zeF (by with_unfolding_all rfl) ?_)
  | with_reducible refine zt ?_
  | with_reducible refine zf ?_
  | with_reducible refine zntt ?_
  | with_reducible refine znff ?_
  | with_reducible refine zdqT (by fail "zpl") ?_
  | with_reducible refine zdqF (by fail "zpl") ?_
  | with_reducible refine zifT (by fail "zo") ?_
  | with_reducible refine zifF (by fail "zo") ?_
  | with_reducible refine zifnT (by fail "zo") ?_
  | with_reducible refine zifnF (by fail "zo") ?_)
local macro_rules | `(tactic| fail "zi") => `(tactic| (repeat (first | with_reducible exact IdxAt.here | with_reducible apply IdxAt.there)))
local macro_rules | `(tactic| fail "zsz") => `(tactic| with_unfolding_all first | (with_reducible assumption) | exact Nat.lt_of_lt_of_le (by simp only [List.length_append, List.length_cons, List.length_nil, List.length_map, List.length_take, List.length_drop, List.length_reverse]; omega) OZ.big_size | exact Nat.le_trans (by simp only [List.length_append, List.length_cons, List.length_nil, List.length_map, List.length_take, List.length_drop, List.length_reverse]; omega) OZ.big_size)
local macro_rules | `(tactic| fail "ztg") => `(tactic| with_reducible first
  | refine Tg.name (by fail "zs") (by with_unfolding_all first | exact Or.inl rfl | exact Or.inr rfl) (by with_unfolding_all first | exact Or.inl rfl | exact Or.inr rfl)
  | refine Tg.two (by fail "ztg") (by fail "ztg")
  | refine Tg.three (by fail "ztg") (by fail "ztg") (by fail "ztg"))
local macro_rules | `(tactic| fail "zst") => `(tactic| first
  | ((with_reducible first | show St1 _ _ _ (.Assign [.Tuple [.Name _ _, .Name _ _] _ _] _ _) _ _ _ | show St1 _ _ _ (.Assign [.Tuple [.Name _ _, .Name _ _, .Name _ _] _ _] _ _) _ _ _); with_reducible refine st1_tgt (by fail "za") ?_)
  | ((with_reducible show St1 _ _ _ (.Assign [.Subscript (.Name _ _) _ _] _ _) _ _ _); first | with_reducible refine st1_setIx (by fail "za") (by fail "zn") ?_ | with_reducible refine st1_setIxK (by fail "za") (by fail "za") (by fail "zn") (by fail "zsz") ?_)
  | ((with_reducible show St1 _ _ _ (.Assign [.Name _ _] (.Call (.Attribute (.Name _ _) "pop" _) [_] [] _) _) _ _ _); first | with_reducible refine st1_setOwn (by fail "za") (by fail "zn") oc_dpop tym_dctM (by fail "zi") ?_ | with_reducible refine st1_setOwn (by fail "za") (by fail "zn") oc_popAt tym_lst (by fail "zi") ?_)
  | ((with_reducible show St1 _ _ _ (.Expr (.Call (.Attribute (.Name _ _) "pop" _) [_] [] _) _) _ _ _); first | with_reducible refine st1_own (by fail "za") (by fail "zn") oc_dpop tym_dctM ?_ | with_reducible refine st1_own (by fail "za") (by fail "zn") oc_popAt tym_lst ?_)
  | ((with_reducible show St1 _ _ _ (.Assign [.Name _ _] (.Dict [] [] _) _) _ _ _); with_reducible refine st1_setNewH (by fail "za") (by fail "za") (by fail "zi") (evn_dict0 ?_))
  | ((with_reducible show St1 _ _ _ (.Assign [.Name _ _] (.Call (.Name "dict" _) [_] [] _) _) _ _ _); with_reducible refine st1_setNewH (by fail "za") (by fail "za") (by fail "zi") (evn_callTy (by fail "za") (Bn.dict (by fail "za")) ?_))
  | ((with_reducible show St1 _ _ _ (.Assign [.Name _ _] (.Call (.Name "list" _) [_] [] _) _) _ _ _); with_reducible refine st1_setNewH (by fail "za") (by fail "za") (by fail "zi") (evn_callTy (by fail "za") (Bn.list (by fail "za")) ?_))
  | ((with_reducible show St1 _ _ _ (.For (.Tuple _ _ _) (.Call (.Name "enumerate" _) [_] [] _) _ [] _) _ _ _); with_reducible refine st1_for (by fail "za") (iter_enumE (by fail "za") (Bn.enumerate (by fail "za")) ?_))
  | ((with_reducible show St1 _ _ _ (.For (.Tuple _ _ _) (.Call (.Name "enumerate" _) [_, _] [] _) _ [] _) _ _ _); with_reducible refine st1_for (by fail "za") (iter_enumF (by fail "za") (Bn.enumerate (by fail "za")) ?_))
  | ((with_reducible show St1 _ _ _ (.For (.Tuple _ _ _) (.Call (.Name "zip" _) [_, _] [] _) _ [] _) _ _ _); with_reducible refine st1_for (by fail "za") (iter_zipE (by fail "za") (Bn.zip (by fail "za")) ?_))
  | ((with_reducible show St1 _ _ _ (.For (.Tuple _ _ _) (.Call (.Attribute _ "items" _) [] [] _) _ [] _) _ _ _); with_reducible refine st1_for (by fail "za") (iter_items ?_))
  | ((with_reducible show St1 _ _ _ (.Assign [.Name _ _] (.BinOp _ .Mult _ _) _) _ _ _); with_reducible refine st1_setNewH (by fail "za") (by fail "za") (by fail "zi") (evn_rep ?_))
  | ((with_reducible show St1 _ _ _ (.Assign [.Name _ _] (.BinOp _ .Add _ _) _) _ _ _); with_reducible refine st1_setNewH (by fail "za") (by fail "za") (by fail "zi") (evn_cat ?_))
  | ((with_reducible show St1 _ _ _ (.Assign [.Name _ _] (.Call (.Name _ _) (_ :: _) [] _) _) _ _ _); first | with_reducible refine st1_setNewH (by fail "za") (by fail "za") (by fail "zi") (evn_call (by fail "za") (by fail "za") (by fail "za") ?_) | with_reducible refine st1_setNewH (by fail "za") (by fail "za") (by fail "zi") (evn_callP (by fail "za") (by fail "za") (by fail "za") ?_))
  | ((with_reducible show St1 _ _ _ (.Assign [.Name _ _] (.List _ _) _) _ _ _); with_reducible refine st1_setNewH (by fail "za") (by fail "za") (by fail "zi") (evn_list ?_))
  | ((with_reducible show St1 _ _ _ (.Expr (.Call (.Attribute (.Name _ _) "append" _) [_] [] _) _) _ _ _); with_reducible refine st1_own (by fail "za") (by fail "zn") oc_append tym_lst ?_)
  | ((with_reducible show St1 _ _ _ (.For _ (.Name _ _) _ [] _) _ _ _); with_reducible refine st1_for (by fail "za") (iter_seq ?_))
  | ((with_reducible show St1 _ _ _ (.For _ (.Subscript _ _ _) _ [] _) _ _ _); with_reducible refine st1_for (by fail "za") (iter_seq ?_))
  | ((with_reducible show St1 _ _ _ (.For _ (.Attribute _ _ _) _ [] _) _ _ _); with_reducible refine st1_for (by fail "za") (iter_seq ?_))
  | ((with_reducible show St1 _ _ _ (.For _ (.Call (.Name "range" _) [_] [] _) _ [] _) _ _ _); with_reducible refine st1_for (by fail "za") (iter_range (by fail "za") (Bn.range (by fail "za")) ?_))
  | ((with_reducible show St1 _ _ _ (.For _ (.Call (.Name "range" _) [_, _] [] _) _ [] _) _ _ _); with_reducible refine st1_for (by fail "za") (iter_range2 (by fail "za") (Bn.range (by fail "za")) ?_))
  | ((with_reducible show St1 _ _ _ (.For _ (.Call (.Name _ _) _ _ _) _ [] _) _ _ _); with_reducible refine st1_for (by fail "za") (iter_seq ?_))
  | ((with_reducible show St1 _ _ _ (.Assign _ _ _) _ _ _); with_reducible refine st1_set (by fail "za") ?_)
  | ((with_reducible show St1 _ _ _ (.If _ _ _ _) _ _ _); with_reducible refine st1_if ?_)
  | ((with_reducible show St1 _ _ _ (.Return _ _) _ _ _); first | with_reducible refine st1_ret ?_ | with_reducible refine st1_retN ?_)
  | ((with_reducible show St1 _ _ _ (.Expr _ _) _ _ _); with_reducible refine st1_expr ?_)
  | ((with_reducible show St1 _ _ _ (.Pass _) _ _ _); with_reducible refine st1_pass ?_)
  | ((with_reducible show St1 _ _ _ (.Raise _ _ _) _ _ _); with_reducible refine st1_raise (by fail "za") (by fail "za") (by fail "za") ?_)
  | ((with_reducible show StD _ _ _ [] _ _ _); first | (with_reducible refine std_pubH (by fail "za") (by with_unfolding_all rfl) ?_; dsimp only [List.set_cons_succ, List.set_cons_zero]) | with_reducible refine std_nil ?_)
  | ((with_reducible show StD _ _ _ _ _ _ _); first | with_reducible refine std_cons ?_ | refine std_cons ?_))
local macro_rules | `(tactic| fail "z1") => `(tactic| first
  | ((with_reducible first | show StD _ _ _ _ (List.set _ _ _) _ _ | show EvD _ _ _ _ (List.set _ _ _) _ _ | show EvT _ _ _ _ (List.set _ _ _) _ _); dsimp only [List.set_cons_succ, List.set_cons_zero])
  | fail "zev"
  | ((with_reducible show OpD _ _ _ _ _ _ _ _); fail "zop")
  | ((with_reducible show CallDN _ _ _ _ _ _ _); first | with_reducible refine cdn_dictD ?_ | with_reducible refine cdn_listL ?_ | with_reducible refine cdn_listT ?_)
  | ((with_reducible show UnD _ _ _ _ _ _ _); first | with_reducible refine und_neg ?_ | with_reducible refine und_negO (by fail "za") (by fail "za") (by fail "za") ?_)
  | ((with_reducible first | show IxD _ _ _ (.tup _) (.int (OfNat.ofNat _)) _ _ | show IxD _ _ _ (.tup _) (.int (-(OfNat.ofNat _))) _ _); with_reducible refine ixd_tup (by with_unfolding_all rfl) ?_)
  | ((with_reducible first | show IxD _ _ _ (.lst _) (.int (OfNat.ofNat _)) _ _ | show IxD _ _ _ (.lst _) (.int (-(OfNat.ofNat _))) _ _); with_reducible refine ixd_lst (by with_unfolding_all rfl) ?_)
  | with_reducible refine key_str ?_
  | with_reducible refine key_int ?_
  | with_reducible refine enud_sqd ?_
  | with_reducible refine seqd_sqd ?_
  | with_reducible refine enud_lst ?_
  | with_reducible refine enud_tup ?_
  | with_reducible refine seqd_lst ?_
  | with_reducible refine seqd_tup ?_
  | with_reducible refine seqd_str ?_
  | with_reducible refine seqd_dct ?_
  | with_reducible refine evp_none ?_
  | with_reducible refine evp_some ?_
  | ((with_reducible show EvA _ _ _ [] _ _ _); with_reducible refine eva_nil ?_)
  | ((with_reducible show EvK _ _ _ [] _ _ _); with_reducible refine evk_nil ?_)
  | ((with_reducible show EvK _ _ _ _ _ _ _); with_reducible refine evk_cons ?_)
  | ((with_reducible show EvA _ _ _ _ _ _ _); with_reducible refine eva_cons ?_)
  | fail "zet"
  | fail "zst"
  | ((with_reducible show CallD _ _ _ (.ref _) _ _ _); with_reducible refine calld_make (by fail "za") (by fail "za") (by fail "za") (by with_unfolding_all rfl) ?_)
  | ((with_reducible show CallD _ _ _ (.builtin "isinstance") [_, _] _ _); with_reducible refine cd_isi (by fail "za") (by fail "zty") (by fail "zcls") (by fail "za") ?_)
  | ((with_reducible show CallD _ _ _ (.builtin "len") [.obj _ _] _ _); with_reducible refine cd_lenO (by fail "za") (by fail "za") (by fail "za") ?_)
  | ((with_reducible show CallD _ _ _ _ _ _ _); first | fail "zcd" | fail "zcd2")
  | ((with_reducible show ∃ sl' is, Tg _ _ _ _ _ _ sl' is ∧ _); with_reducible refine ⟨_, _, by fail "ztg", ?_⟩)
  | ((with_reducible show ∃ res d1, OwnR _ rAppend _ _ res d1 ∧ _); with_reducible refine ⟨_, _, own_append (by fail "zsz"), ?_⟩)
  | (with_reducible refine ⟨_, _, by fail "zs", ?_⟩)
  | (with_reducible refine ⟨_, rfl, rfl, ?_⟩)
  | ((with_reducible show AttrD _ _ _ _ _ _ _); first
    | with_reducible refine AttrD.prop (by fail "za") (by with_unfolding_all decide) ?_
    | with_reducible refine AttrD.propP (by fail "za") (by with_unfolding_all decide) ?_
    | with_reducible refine AttrD.con (by fail "za") (by fail "za") (by with_unfolding_all rfl) ?_
    | with_reducible refine AttrD.cls (by fail "za") ?_
    | with_reducible refine AttrD.fld (by fail "za") (by fail "za") (by with_unfolding_all rfl) ?_)
  | ((with_reducible show MethN _ _ _ _ _ _ _ _ _ _); first
    | with_reducible refine MethN.mk (by fail "za") (by with_unfolding_all decide) (by with_unfolding_all rfl) ?_
    | with_reducible refine MethN.pure (by fail "za") (by with_unfolding_all decide) (by with_unfolding_all rfl) ?_
    | with_reducible refine MethN.fld (by fail "za") (by fail "za") (by with_unfolding_all rfl) (by fail "za") (by with_unfolding_all decide) ?_
    | with_reducible refine MethN.fldP (by fail "za") (by fail "za") (by with_unfolding_all rfl) (by fail "za") (by with_unfolding_all decide) ?_)
  | ((with_reducible show MethD _ _ _ _ _ _ _ _ _ _ _); first
    | with_reducible refine MethD.mk (by fail "za") (by with_unfolding_all decide) (by with_unfolding_all rfl) ?_
    | with_reducible refine MethD.pure (by fail "za") (by with_unfolding_all decide) (by with_unfolding_all rfl) ?_)
  | ((with_reducible show ∃ fs v, Da.exc _ _ _ = _ ∧ _); with_reducible refine ⟨_, _, (by with_unfolding_all rfl), (by with_unfolding_all rfl), ?_⟩)
  | ((with_reducible show ∃ C fs v, _ = Da.obj C fs ∧ _); with_reducible refine ⟨_, _, _, (by with_unfolding_all rfl), by fail "za", by fail "za", (by with_unfolding_all rfl), ?_⟩)
  | fail "zif"
  | with_reducible refine tru_bl ?_
  | with_reducible refine tru_int ?_
  | with_reducible refine tru_non ?_
  | with_reducible refine tru_lst ?_
  | with_reducible refine tru_tup ?_
  | (with_reducible refine ⟨_, rfl, ?_⟩)
  | ((with_reducible show _ ≤ sizeLine ∧ _); with_reducible refine And.intro (Nat.le_of_ble_eq_true (by with_unfolding_all rfl)) ?_)
  | ((with_reducible show flD _ = true ∧ _); refine And.intro (by with_unfolding_all rfl) ?_)
  | (with_reducible refine And.intro rfl ?_)
  | (with_reducible refine And.intro (by fail "zo") ?_))
local macro_rules | `(tactic| fail "go") => `(tactic| (repeat fail "z1"))
local macro_rules | `(tactic| fail "zj") => `(tactic| first | omega | exact ⟨_, rfl, by omega⟩ | exact ⟨_, _, rfl, by omega⟩ | exact ⟨_, _, _, rfl, by omega⟩ | exact ⟨_, _, _, _, rfl, by omega⟩)
local macro_rules | `(tactic| extract_lets $a:ident $b:ident $c:ident) => `(tactic| (fail "go"; (first | refine OS.FDraw.use (by omega) (by omega) (by omega) fun $a $b $c => ?_ | refine OS.FTake.use (by omega) (by omega) (by omega) fun $a $b $c => ?_); fail "go"))
-- END MACROS

namespace OS
/-! ### integers in rows: sums, products, shortened rows -/
def gA (v : List Int) (j : Nat) : Int := v.getD j 0
def sumN : Nat → (Nat → Int) → Int
  | 0, _ => 0
  | n + 1, f => sumN n f + f n
theorem sumN_congr {n : Nat} {f g : Nat → Int} (h : ∀ j, j < n → f j = g j) : sumN n f = sumN n g := by
  induction n with
  | zero => rfl
  | succ n ih => rw [sumN, sumN, ih (fun j hj => h j (by omega)), h n (by omega)]
theorem sumN_lin (n : Nat) (a b : Int) (f g : Nat → Int) : sumN n (fun j => a * f j + b * g j) = a * sumN n f + b * sumN n g := by
  induction n with
  | zero => simp [sumN]
  | succ n ih => simp only [sumN, ih, Int.mul_add]; omega
theorem sumN_mul (n : Nat) (a : Int) (f : Nat → Int) : sumN n (fun j => a * f j) = a * sumN n f := by
  induction n with
  | zero => simp [sumN]
  | succ n ih => simp only [sumN, ih, Int.mul_add]
theorem sumN_zero {n : Nat} {f : Nat → Int} (h : ∀ j, j < n → f j = 0) : sumN n f = 0 := by
  induction n with
  | zero => rfl
  | succ n ih => rw [sumN, ih (fun j hj => h j (by omega)), h n (by omega)]; rfl
theorem sumN_one {n p : Nat} {f : Nat → Int} (hp : p < n) (h : ∀ j, j < n → j ≠ p → f j = 0) : sumN n f = f p := by
  induction n with
  | zero => omega
  | succ n ih =>
    rw [sumN]
    by_cases e : p = n
    · subst e
      rw [sumN_zero (fun j hj => h j (by omega) (by omega))]
      omega
    · rw [ih (by omega) (fun j hj hn => h j (by omega) hn), h n (by omega) (by omega)]
      omega
theorem sumN_two {n p q : Nat} {f : Nat → Int} (hp : p < n) (hq : q < n) (ne : p ≠ q) (h : ∀ j, j < n → j ≠ p → j ≠ q → f j = 0) : sumN n f = f p + f q := by
  induction n with
  | zero => omega
  | succ n ih =>
    rw [sumN]
    by_cases e : p = n
    · subst e
      rw [sumN_one (p := q) (by omega) (fun j hj hn => h j (by omega) (by omega) hn)]
      omega
    · by_cases e2 : q = n
      · subst e2
        rw [sumN_one (p := p) (by omega) (fun j hj hn => h j (by omega) hn (by omega))]
      · rw [ih (by omega) (by omega) (fun j hj h1 h2 => h j (by omega) h1 h2), h n (by omega) (by omega) (by omega)]
        omega
/-- the product of a row and a vector -/
def dotV (n : Nat) (r : List Int) (x : Nat → Int) : Int := sumN n fun j => gA r j * x j
def dotI (r c : List Int) : Int := (List.zipWith (· * ·) r c).sum
theorem gA_cons_zero (a : Int) (v : List Int) : gA (a :: v) 0 = a := rfl
theorem gA_cons_succ (a : Int) (v : List Int) (j : Nat) : gA (a :: v) (j + 1) = gA v j := rfl
theorem gA_get {v : List Int} {j : Nat} (h : j < v.length) : v[j]? = some (gA v j) := by
  unfold gA; rw [List.getElem?_eq_getElem h, List.getD_eq_getElem?_getD, List.getElem?_eq_getElem h]; rfl
theorem gA_out {v : List Int} {j : Nat} (h : v.length ≤ j) : gA v j = 0 := by
  unfold gA; rw [List.getD_eq_getElem?_getD, List.getElem?_eq_none h]; rfl
theorem gA_mem {v : List Int} {j : Nat} (h : j < v.length) : gA v j ∈ v := by
  have := gA_get h
  exact List.mem_of_getElem? this
theorem mem_gA {v : List Int} {x : Int} (h : x ∈ v) : ∃ j, j < v.length ∧ gA v j = x := by
  obtain ⟨j, hj, e⟩ := List.getElem_of_mem h
  refine ⟨j, hj, ?_⟩
  unfold gA
  rw [List.getD_eq_getElem?_getD, List.getElem?_eq_getElem hj, e]
  rfl
theorem gA_map {v : List Int} {f : Int → Int} (h0 : f 0 = 0) (j : Nat) : gA (v.map f) j = f (gA v j) := by
  unfold gA
  rw [List.getD_eq_getElem?_getD, List.getD_eq_getElem?_getD, List.getElem?_map]
  cases v[j]? <;> simp [h0]
theorem gA_zip {v w : List Int} {f : Int → Int → Int} (hl : v.length = w.length) (h0 : f 0 0 = 0) (j : Nat) : gA (List.zipWith f v w) j = f (gA v j) (gA w j) := by
  by_cases h : j < v.length
  · unfold gA
    rw [List.getD_eq_getElem?_getD, List.getD_eq_getElem?_getD, List.getD_eq_getElem?_getD, List.getElem?_eq_getElem h, List.getElem?_eq_getElem (l := w) (by omega), List.getElem?_eq_getElem (l := List.zipWith f v w) (by rw [List.length_zipWith]; omega)]
    simp
  · rw [gA_out (by rw [List.length_zipWith]; omega), gA_out (by omega), gA_out (by omega), h0]
theorem gA_ext {v w : List Int} (hl : v.length = w.length) (h : ∀ j, j < v.length → gA v j = gA w j) : v = w := by
  refine List.ext_getElem hl fun j h1 h2 => ?_
  have := h j h1
  have a := gA_get h1
  have b := gA_get h2
  rw [List.getElem?_eq_getElem h1] at a
  rw [List.getElem?_eq_getElem h2] at b
  have a := Option.some.inj a
  have b := Option.some.inj b
  rw [a, b, this]
theorem gA_set {v : List Int} {i j : Nat} {x : Int} (h : i < v.length) : gA (v.set i x) j = if j = i then x else gA v j := by
  unfold gA
  rw [List.getD_eq_getElem?_getD, List.getD_eq_getElem?_getD]
  split
  · rename_i e; subst e; rw [List.getElem?_set_self h]; rfl
  · rw [List.getElem?_set_ne (by omega)]
theorem gA_rep {n j : Nat} : gA (List.replicate n 0) j = 0 := by
  unfold gA
  rw [List.getD_eq_getElem?_getD, List.getElem?_replicate]
  split <;> rfl
theorem dotI_sum : ∀ {r c : List Int} {n : Nat}, r.length = n → c.length = n → dotI r c = dotV n r (gA c)
  | [], [], 0, _, _ => rfl
  | a :: r, b :: c, n + 1, h1, h2 => by
    have ih := dotI_sum (r := r) (c := c) (n := n) (by simpa using h1) (by simpa using h2)
    have key : ∀ (n : Nat) (f : Nat → Int), sumN (n + 1) f = f 0 + sumN n fun j => f (j + 1) := by
      intro n f
      induction n with
      | zero => simp [sumN]
      | succ n ihn => rw [sumN, ihn, sumN]; omega
    unfold dotV at ih ⊢
    rw [key]
    show (List.zipWith (· * ·) (a :: r) (b :: c)).sum = _
    rw [List.zipWith_cons_cons, List.sum_cons]
    show a * b + dotI r c = _
    rw [ih]
    rfl
  | [], _ :: _, 0, _, h => by simp at h
  | _ :: _, _, 0, h, _ => by simp at h
  | [], _, _ + 1, h, _ => by simp at h
  | _ :: _, [], _ + 1, _, h => by simp at h
theorem dotI_comm (r c : List Int) : dotI r c = dotI c r := by
  unfold dotI
  rw [List.zipWith_comm]
  congr 1
  congr 1
  funext a b
  exact Int.mul_comm _ _
/-! the greatest common divisor -/
def gcdI (v : List Int) : Nat := v.foldl (fun d x => Nat.gcd d x.natAbs) 0
theorem gcdF_dvd : ∀ (v : List Int) (a : Nat), (v.foldl (fun d x => Nat.gcd d x.natAbs) a ∣ a) ∧ ∀ x ∈ v, v.foldl (fun d x => Nat.gcd d x.natAbs) a ∣ x.natAbs
  | [], a => ⟨Nat.dvd_refl a, by simp⟩
  | y :: v, a => by
    obtain ⟨h1, h2⟩ := gcdF_dvd v (Nat.gcd a y.natAbs)
    refine ⟨Nat.dvd_trans h1 (Nat.gcd_dvd_left _ _), fun x hx => ?_⟩
    rcases List.mem_cons.mp hx with rfl | hx
    · exact Nat.dvd_trans h1 (Nat.gcd_dvd_right _ _)
    · exact h2 x hx
theorem gcdI_dvd {v : List Int} {x : Int} (h : x ∈ v) : (gcdI v : Int) ∣ x := Int.ofNat_dvd_left.mpr ((gcdF_dvd v 0).2 x h)
theorem gcdF_mul : ∀ (v : List Int) (a : Nat) (d m : Int), d ∣ m * a → (∀ x ∈ v, d ∣ m * x) → d ∣ m * ((v.foldl (fun d x => Nat.gcd d x.natAbs) a : Nat) : Int)
  | [], a, d, m, h, _ => h
  | y :: v, a, d, m, h, h2 => by
    refine gcdF_mul v (Nat.gcd a y.natAbs) d m ?_ fun x hx => h2 x (List.mem_cons_of_mem _ hx)
    have hy := h2 y List.mem_cons_self
    rw [← Int.dvd_natAbs, Int.natAbs_mul] at h hy ⊢
    rw [← Int.natAbs_dvd] at h hy ⊢
    rw [Int.natCast_dvd_natCast] at h hy ⊢
    rw [Int.natAbs_natCast] at h ⊢
    rw [← Nat.gcd_mul_left]
    exact Nat.dvd_gcd h hy
theorem gcdI_mul {v : List Int} {d m : Int} (h : ∀ x ∈ v, d ∣ m * x) : d ∣ m * (gcdI v : Int) := gcdF_mul v 0 d m (by simp) h
theorem gcdI_zero {v : List Int} (h : gcdI v = 0) : ∀ x ∈ v, x = 0 := fun x hx => by
  have := gcdI_dvd hx
  rw [h] at this
  obtain ⟨c, e⟩ := this
  rw [e]
  simp
theorem gcdI_le {v : List Int} {B : Nat} (h : ∀ x ∈ v, x.natAbs ≤ B) : gcdI v ≤ B := by
  by_cases e : gcdI v = 0
  · omega
  · have : ∃ x ∈ v, x ≠ 0 := by
      refine Classical.byContradiction fun hn => e ?_
      have hz : ∀ x ∈ v, x = 0 := fun x hx => Classical.byContradiction fun z => hn ⟨x, hx, z⟩
      have key : ∀ (w : List Int), (∀ x ∈ w, x = 0) → w.foldl (fun d x => Nat.gcd d x.natAbs) 0 = 0 := by
        intro w
        induction w with
        | nil => intro _; rfl
        | cons y w ih =>
          intro hw
          rw [List.foldl_cons, hw y List.mem_cons_self]
          exact ih fun x hx => hw x (List.mem_cons_of_mem _ hx)
      exact key v hz
    obtain ⟨x, hx, hx0⟩ := this
    have h1 := gcdI_dvd hx
    have h2 : gcdI v ∣ x.natAbs := Int.ofNat_dvd_left.mp h1
    exact Nat.le_trans (Nat.le_of_dvd (by omega) h2) (h x hx)
def shortI (v : List Int) : List Int := if gcdI v = 0 then v else v.map (· / (gcdI v : Int))
theorem shortI_len (v : List Int) : (shortI v).length = v.length := by unfold shortI; split <;> simp
/-- what is to be divided out -/
theorem shortI_mul (v : List Int) : ∃ g : Int, 0 < g ∧ ∀ j, gA v j = g * gA (shortI v) j := by
  unfold shortI
  split
  · exact ⟨1, by omega, fun j => by omega⟩
  · rename_i h
    refine ⟨gcdI v, by omega, fun j => ?_⟩
    rw [gA_map (by simp)]
    by_cases hj : j < v.length
    · exact (Int.mul_ediv_cancel' (gcdI_dvd (gA_mem hj))).symm
    · rw [gA_out (by omega)]; simp
theorem shortI_prim (v : List Int) (d m : Int) (h : ∀ j, d ∣ m * gA (shortI v) j) : (∀ j, gA (shortI v) j = 0) ∨ d ∣ m := by
  by_cases e : gcdI v = 0
  · left
    intro j
    unfold shortI
    rw [if_pos e]
    by_cases hj : j < v.length
    · exact gcdI_zero e _ (gA_mem hj)
    · exact gA_out (by omega)
  · right
    have g0 : (gcdI v : Int) ≠ 0 := by omega
    have hs : ∀ j, gA v j = (gcdI v : Int) * gA (shortI v) j := fun j => by
      unfold shortI
      rw [if_neg e, gA_map (by simp)]
      by_cases hj : j < v.length
      · exact (Int.mul_ediv_cancel' (gcdI_dvd (gA_mem hj))).symm
      · rw [gA_out (by omega)]; simp
    have := gcdI_mul (v := v) (d := d * (gcdI v : Int)) (m := m) fun x hx => by
      obtain ⟨j, hj, rfl⟩ := mem_gA hx
      obtain ⟨c, hc⟩ := h j
      exact ⟨c, by rw [hs j, ← Int.mul_assoc, Int.mul_comm m, Int.mul_assoc, hc, ← Int.mul_assoc, Int.mul_comm (gcdI v : Int) d]⟩
    exact Int.dvd_of_mul_dvd_mul_right g0 this
def combI (a b : Int) (r k : List Int) : List Int := List.zipWith (fun x y => a * x - b * y) r k
def clearI (r k : List Int) (p : Nat) : List Int := shortI (combI (gA k p) (gA r p) r k)
theorem clearI_len {r k : List Int} {n p : Nat} (h1 : r.length = n) (h2 : k.length = n) : (clearI r k p).length = n := by
  unfold clearI
  rw [shortI_len]
  unfold combI
  rw [List.length_zipWith]
  omega
theorem clearI_mul {r k : List Int} {n : Nat} (p : Nat) (h1 : r.length = n) (h2 : k.length = n) : ∃ g : Int, 0 < g ∧ ∀ j, g * gA (clearI r k p) j = gA k p * gA r j - gA r p * gA k j := by
  obtain ⟨g, g0, h⟩ := shortI_mul (combI (gA k p) (gA r p) r k)
  refine ⟨g, g0, fun j => ?_⟩
  unfold clearI
  rw [← h j]
  unfold combI
  rw [gA_zip (by omega) (by simp)]
theorem dot_rel {n : Nat} {u v w : List Int} {g a b : Int} (x : Nat → Int) (h : ∀ j, g * gA u j = a * gA v j - b * gA w j) : g * dotV n u x = a * dotV n v x - b * dotV n w x := by
  unfold dotV
  rw [← sumN_mul, show a * sumN n (fun j => gA v j * x j) - b * sumN n (fun j => gA w j * x j) = a * sumN n (fun j => gA v j * x j) + (-b) * sumN n (fun j => gA w j * x j) by rw [Int.neg_mul]; omega, ← sumN_lin]
  refine sumN_congr fun j _ => ?_
  rw [← Int.mul_assoc, h j, Int.sub_mul, Int.mul_assoc, Int.mul_assoc, Int.neg_mul]
  omega
end OS

namespace OS
/-! ### elimination: solved rows -/
abbrev Sv := List (Nat × List Int)
def firstP : List Int → Option Nat
  | [] => none
  | x :: v => if x ≠ 0 then some 0 else (firstP v).map (· + 1)
theorem firstP_none : ∀ {v : List Int}, firstP v = none → ∀ j, gA v j = 0
  | [], _, j => rfl
  | x :: v, h, j => by
    unfold firstP at h
    split at h
    · cases h
    rename_i hx
    have hx : x = 0 := by omega
    cases j with
    | zero => exact hx
    | succ j => exact firstP_none (by simpa using h) j
theorem firstP_some : ∀ {v : List Int} {l : Nat}, firstP v = some l → l < v.length ∧ gA v l ≠ 0 ∧ ∀ q, q < l → gA v q = 0
  | [], _, h => by cases h
  | x :: v, l, h => by
    unfold firstP at h
    split at h
    · cases h
      rename_i hx
      exact ⟨by simp, hx, fun q hq => by omega⟩
    rename_i hx
    cases e : firstP v with
    | none => rw [e] at h; cases h
    | some k =>
      rw [e] at h
      cases h
      obtain ⟨h1, h2, h3⟩ := firstP_some e
      refine ⟨by simp; omega, h2, fun q hq => ?_⟩
      have hq : q < k + 1 := hq
      cases q with
      | zero => show x = 0; omega
      | succ q => exact h3 q (by omega)
def clearAll (S : Sv) (r : List Int) : List Int := S.foldl (fun r e => clearI r e.2 e.1) r
def solveStep (S : Sv) (r : List Int) : Sv :=
  match firstP (clearAll S r) with
  | none => S
  | some l => S.map (fun e => (e.1, clearI e.2 (clearAll S r) l)) ++ [(l, clearAll S r)]
def solveI (rows : List (List Int)) : Sv := rows.foldl solveStep []
/-- a sum of multiples of rows, at a place -/
def linC (y : List Int) (rows : List (List Int)) (j : Nat) : Int := (List.zipWith (fun a r => a * gA r j) y rows).sum
theorem linC_comb : ∀ (y z : List Int) (rows : List (List Int)) (a b : Int) (j : Nat), y.length = rows.length → z.length = rows.length → linC (combI a b y z) rows j = a * linC y rows j - b * linC z rows j
  | [], [], [], a, b, j, _, _ => by simp [linC, combI]
  | c :: y, d :: z, r :: rows, a, b, j, h1, h2 => by
    have ih := linC_comb y z rows a b j (by simpa using h1) (by simpa using h2)
    unfold linC combI at ih ⊢
    simp only [List.zipWith_cons_cons, List.sum_cons]
    rw [ih, Int.mul_add, Int.mul_add, Int.sub_mul, Int.mul_assoc, Int.mul_assoc]
    omega
  | [], _ :: _, [], _, _, _, _, h => by simp at h
  | _ :: _, _, [], _, _, _, h, _ => by simp at h
  | [], _, _ :: _, _, _, _, h, _ => by simp at h
  | _ :: _, [], _ :: _, _, _, _, _, h => by simp at h
theorem linC_zero (rows : List (List Int)) (j : Nat) : linC (List.replicate rows.length 0) rows j = 0 := by
  unfold linC
  induction rows with
  | nil => rfl
  | cons r rows ih => simp only [List.length_cons, List.replicate_succ, List.zipWith_cons_cons, List.sum_cons, ih]; omega
theorem linC_snoc : ∀ (y : List Int) (rows : List (List Int)) (a : Int) (r : List Int) (j : Nat), y.length = rows.length → linC (y ++ [a]) (rows ++ [r]) j = linC y rows j + a * gA r j
  | [], [], a, r, j, _ => by simp [linC]
  | c :: y, d :: rows, a, r, j, h => by
    have ih := linC_snoc y rows a r j (by simpa using h)
    unfold linC at ih ⊢
    simp only [List.cons_append, List.zipWith_cons_cons, List.sum_cons]
    rw [ih]
    omega
  | [], _ :: _, _, _, _, h => by simp at h
  | _ :: _, [], _, _, _, h => by simp at h
def bdI (b : Nat) : Nat → Nat
  | 0 => 1
  | i + 1 => 2 * (i + 1) * b * (bdI b i) ^ 2
theorem bdI_pos {b : Nat} (hb : 1 ≤ b) : ∀ i, 1 ≤ bdI b i
  | 0 => Nat.le_refl 1
  | i + 1 => by
    have := bdI_pos hb i
    unfold bdI
    have h1 : 1 ≤ (bdI b i) ^ 2 := Nat.one_le_pow _ _ this
    have h2 : 1 ≤ 2 * (i + 1) * b := Nat.mul_pos (by omega) hb
    exact Nat.mul_le_mul h2 h1
theorem bdI_step {b i : Nat} (hb : 1 ≤ b) : (i + 1) * b * bdI b i ≤ bdI b (i + 1) ∧ bdI b i * ((i + 1) * b * bdI b i) ≤ bdI b (i + 1) ∧ 2 * (bdI b i * ((i + 1) * b * bdI b i)) ≤ bdI b (i + 1) ∧ bdI b i ≤ bdI b (i + 1) := by
  have h1 := bdI_pos hb i
  have e : bdI b (i + 1) = 2 * (bdI b i * ((i + 1) * b * bdI b i)) := by
    show 2 * (i + 1) * b * (bdI b i) ^ 2 = _
    rw [Nat.pow_two]
    ac_rfl
  have h2 : 1 * ((i + 1) * b * bdI b i) ≤ bdI b i * ((i + 1) * b * bdI b i) := Nat.mul_le_mul_right _ h1
  have h3 : bdI b i * 1 ≤ bdI b i * ((i + 1) * b * bdI b i) := Nat.mul_le_mul_left _ (Nat.mul_pos (Nat.mul_pos (by omega) hb) h1)
  rw [e]
  refine ⟨by omega, by omega, by omega, by omega⟩
structure SInv (n b : Nat) (rows : List (List Int)) (S : Sv) : Prop where
  len : ∀ e ∈ S, e.2.length = n ∧ e.1 < n
  piv : ∀ e ∈ S, gA e.2 e.1 ≠ 0
  low : ∀ e ∈ S, ∀ q, q < e.1 → gA e.2 q = 0
  oth : S.Pairwise fun e f => e.1 ≠ f.1 ∧ gA e.2 f.1 = 0 ∧ gA f.2 e.1 = 0
  ker : ∀ x : Nat → Int, (∀ e ∈ S, dotV n e.2 x = 0) ↔ ∀ r ∈ rows, dotV n r x = 0
  spn : ∀ e ∈ S, ∃ (c : Int) (y : List Int), c ≠ 0 ∧ y.length = rows.length ∧ ∀ j, c * gA e.2 j = linC y rows j
  siz : ∃ D : Int, D ≠ 0 ∧ D.natAbs ≤ bdI b rows.length ∧ ∀ e ∈ S, ∃ c : Int, c * gA e.2 e.1 = D ∧ ∀ j, (c * gA e.2 j).natAbs ≤ bdI b rows.length
  cnt : S.length ≤ rows.length
theorem sinv_nil (n b : Nat) : SInv n b [] [] := ⟨by simp, by simp, by simp, .nil, by simp, by simp, ⟨1, by decide, Nat.le_refl 1, by simp⟩, Nat.le_refl _⟩
/-- the row while it is cleared: S1 is done -/
structure RInv (n : Nat) (rows : List (List Int)) (r : List Int) (D : Int) (cf : Nat × List Int → Int) (S1 : Sv) (t : List Int) : Prop where
  len : t.length = n
  zer : ∀ e ∈ S1, gA t e.1 = 0
  ker : ∀ x : Nat → Int, (∀ e ∈ S1, dotV n e.2 x = 0) → (dotV n t x = 0 ↔ dotV n r x = 0)
  spn : ∃ (c : Int) (y : List Int), c ≠ 0 ∧ y.length = (rows ++ [r]).length ∧ ∀ j, c * gA t j = linC y (rows ++ [r]) j
  siz : ∃ e : Int, e ≠ 0 ∧ ∀ j, e * gA t j = D * gA r j - (S1.map fun s => gA r s.1 * (cf s * gA s.2 j)).sum
theorem rinv_go {n b : Nat} {rows : List (List Int)} {S : Sv} {r : List Int} {D : Int} {cf : Nat × List Int → Int} (iv : SInv n b rows S) (hr : r.length = n) (hD : D ≠ 0) (hc : ∀ e ∈ S, cf e * gA e.2 e.1 = D) :
    ∀ (S2 S1 S3 : Sv) (t : List Int), S1 ++ S2 ++ S3 = S → RInv n rows r D cf S1 t → RInv n rows r D cf (S1 ++ S2) (S2.foldl (fun r e => clearI r e.2 e.1) t)
  | [], S1, S3, t, h, k => by rw [List.append_nil]; exact k
  | e :: S2, S1, S3, t, h, k => by
    rw [show S1 ++ e :: S2 = (S1 ++ [e]) ++ S2 by simp]
    refine rinv_go iv hr hD hc S2 (S1 ++ [e]) S3 _ (by simpa using h) ?_
    rw [List.append_assoc] at h
    have he : e ∈ S := by rw [← h]; simp
    obtain ⟨le, _⟩ := iv.len e he
    obtain ⟨g, g0, hg⟩ := clearI_mul e.1 k.len le
    have po := iv.oth
    rw [← h, List.pairwise_append] at po
    have pe : ∀ s ∈ S1, s.1 ≠ e.1 ∧ gA s.2 e.1 = 0 ∧ gA e.2 s.1 = 0 := fun s hs => po.2.2 s hs e List.mem_cons_self
    have pv := iv.piv e he
    refine ⟨clearI_len k.len le, ?_, ?_, ?_, ?_⟩
    · intro s hs
      have := hg s.1
      rcases List.mem_append.mp hs with hs | hs
      · rw [k.zer s hs, (pe s hs).2.2] at this
        rcases Int.mul_eq_zero.mp (show g * gA (clearI t e.2 e.1) s.1 = 0 by rw [this]; omega) with z | z
        · omega
        · exact z
      · rw [List.mem_singleton.mp hs] at this ⊢
        rcases Int.mul_eq_zero.mp (show g * gA (clearI t e.2 e.1) e.1 = 0 by rw [this, Int.mul_comm]; omega) with z | z
        · omega
        · exact z
    · intro x hx
      have h1 := hx e (by simp)
      have h2 := k.ker x fun s hs => hx s (List.mem_append_left _ hs)
      have h3 := dot_rel (n := n) x hg
      rw [h1] at h3
      rw [← h2]
      constructor
      · intro z
        rw [z] at h3
        rcases Int.mul_eq_zero.mp (show gA e.2 e.1 * dotV n t x = 0 by omega) with y | y
        · exact absurd y pv
        · exact y
      · intro z
        rw [z] at h3
        rcases Int.mul_eq_zero.mp (show g * dotV n (clearI t e.2 e.1) x = 0 by omega) with y | y
        · omega
        · exact y
    · obtain ⟨c, y, c0, yl, hy⟩ := k.spn
      obtain ⟨c2, y2, c20, y2l, hy2⟩ := iv.spn e he
      refine ⟨c * c2 * g, combI (gA e.2 e.1 * c2) (gA t e.1 * c) y (y2 ++ [0]), Int.mul_ne_zero (Int.mul_ne_zero c0 c20) (by omega), ?_, fun j => ?_⟩
      · unfold combI
        rw [List.length_zipWith, yl]
        simp [y2l]
      · rw [linC_comb _ _ _ _ _ _ yl (by simp [y2l]), linC_snoc _ _ _ _ _ y2l, ← hy, ← hy2, Int.mul_assoc, hg j]
        rw [Int.mul_sub, Int.zero_mul, Int.add_zero]
        congr 1 <;> ac_rfl
    · obtain ⟨e1, e0, he1⟩ := k.siz
      have hcE := hc e he
      have c0 : cf e ≠ 0 := fun z => hD (by rw [← hcE, z, Int.zero_mul])
      -- the sum at the place of e
      have hs0 : ∀ (L : Sv), (∀ s ∈ L, gA s.2 e.1 = 0) → (L.map fun s => gA r s.1 * (cf s * gA s.2 e.1)).sum = 0 := by
        intro L
        induction L with
        | nil => intro _; rfl
        | cons s L ih =>
          intro hL
          rw [List.map_cons, List.sum_cons, ih fun q hq => hL q (List.mem_cons_of_mem _ hq), hL s List.mem_cons_self]
          simp
      have hup : e1 * gA t e.1 = D * gA r e.1 := by rw [he1, hs0 S1 fun s hs => (pe s hs).2.1]; omega
      have main : ∀ j, D * (D * gA r j - ((S1 ++ [e]).map fun s => gA r s.1 * (cf s * gA s.2 j)).sum) = (cf e * e1 * g) * gA (clearI t e.2 e.1) j := fun j => by
        rw [Int.mul_assoc, hg j, List.map_append, List.sum_append]
        show D * (D * gA r j - ((S1.map fun s => gA r s.1 * (cf s * gA s.2 j)).sum + (gA r e.1 * (cf e * gA e.2 j) + 0))) = _
        rw [show D * gA r j - ((S1.map fun s => gA r s.1 * (cf s * gA s.2 j)).sum + (gA r e.1 * (cf e * gA e.2 j) + 0)) = e1 * gA t j - gA r e.1 * (cf e * gA e.2 j) by rw [he1]; omega]
        rw [Int.mul_sub, Int.mul_sub]
        have a1 : D * (e1 * gA t j) = cf e * e1 * (gA e.2 e.1 * gA t j) := by rw [← hcE]; ac_rfl
        have a2 : D * (gA r e.1 * (cf e * gA e.2 j)) = cf e * e1 * (gA t e.1 * gA e.2 j) := by
          rw [show D * (gA r e.1 * (cf e * gA e.2 j)) = (D * gA r e.1) * (cf e * gA e.2 j) by ac_rfl, ← hup]
          ac_rfl
        rw [a1, a2]
      have dv : ∀ j, D ∣ (cf e * e1 * g) * gA (clearI t e.2 e.1) j := fun j => ⟨_, (main j).symm⟩
      have m0 : cf e * e1 * g ≠ 0 := Int.mul_ne_zero (Int.mul_ne_zero c0 e0) (by omega)
      unfold clearI at dv
      rcases shortI_prim _ D _ dv with z | ⟨q, hq⟩
      · refine ⟨1, by decide, fun j => ?_⟩
        have := main j
        have z : gA (clearI t e.2 e.1) j = 0 := z j
        rw [z, Int.mul_zero] at this
        rw [z]
        rcases Int.mul_eq_zero.mp this with y | y
        · exact absurd y hD
        · rw [y]; rfl
      · refine ⟨q, fun z => m0 (by rw [hq, z, Int.mul_zero]), fun j => ?_⟩
        have := main j
        rw [hq, Int.mul_assoc] at this
        exact (Int.eq_of_mul_eq_mul_left hD this).symm
theorem sum_bd {α : Type} (f : α → Int) (B : Nat) : ∀ L : List α, (∀ s ∈ L, (f s).natAbs ≤ B) → ((L.map f).sum).natAbs ≤ L.length * B
  | [], _ => by simp
  | s :: L, h => by
    have ih := sum_bd f B L fun q hq => h q (List.mem_cons_of_mem _ hq)
    have := h s List.mem_cons_self
    rw [List.map_cons, List.sum_cons, List.length_cons, Nat.add_mul, Nat.one_mul]
    omega
theorem dot_zero {n : Nat} {t : List Int} (h : ∀ j, gA t j = 0) (x : Nat → Int) : dotV n t x = 0 := sumN_zero fun j _ => by rw [h j, Int.zero_mul]
theorem rinv_0 {n : Nat} {rows : List (List Int)} {r : List Int} {D : Int} {cf : Nat × List Int → Int} (hr : r.length = n) (hD : D ≠ 0) : RInv n rows r D cf [] r :=
  ⟨hr, by simp, fun x _ => Iff.rfl, ⟨1, List.replicate rows.length 0 ++ [1], by decide, by simp, fun j => by rw [linC_snoc _ _ _ _ _ (by simp), linC_zero]; omega⟩, ⟨D, hD, fun j => by simp⟩⟩
theorem abs_le_mul {e x : Int} {B : Nat} (h0 : e ≠ 0) (h : (e * x).natAbs ≤ B) : x.natAbs ≤ B := by
  rw [Int.natAbs_mul] at h
  have : 1 * x.natAbs ≤ e.natAbs * x.natAbs := Nat.mul_le_mul_right _ (by omega)
  omega
theorem u_bd {b k B : Nat} {D : Int} {r : List Int} {cf : Nat × List Int → Int} (S1 : Sv) (hbr : ∀ j, (gA r j).natAbs ≤ b) (hD : D.natAbs ≤ B) (hl : S1.length ≤ k) (hs : ∀ e ∈ S1, ∀ j, (cf e * gA e.2 j).natAbs ≤ B) (j : Nat) :
    (D * gA r j - (S1.map fun s => gA r s.1 * (cf s * gA s.2 j)).sum).natAbs ≤ (k + 1) * b * B := by
  have h1 : (D * gA r j).natAbs ≤ B * b := by rw [Int.natAbs_mul]; exact Nat.mul_le_mul hD (hbr j)
  have h2 := sum_bd (fun s => gA r s.1 * (cf s * gA s.2 j)) (b * B) S1 fun s hs' => by rw [Int.natAbs_mul]; exact Nat.mul_le_mul (hbr _) (hs s hs' j)
  have h3 : S1.length * (b * B) ≤ k * (b * B) := Nat.mul_le_mul_right _ hl
  have h4 : (k + 1) * b * B = k * (b * B) + B * b := by rw [Nat.mul_assoc, Nat.add_mul, Nat.one_mul, Nat.mul_comm b B]
  omega
/-- a row cleared of all solved ones -/
theorem clearAll_ok {n b : Nat} {rows : List (List Int)} {S : Sv} {r : List Int} (iv : SInv n b rows S) (hr : r.length = n) (hbr : ∀ j, (gA r j).natAbs ≤ b) :
    ∃ (D : Int) (cf : Nat × List Int → Int), D ≠ 0 ∧ D.natAbs ≤ bdI b rows.length ∧ (∀ e ∈ S, cf e * gA e.2 e.1 = D) ∧ (∀ e ∈ S, ∀ j, (cf e * gA e.2 j).natAbs ≤ bdI b rows.length) ∧ ∀ S1 S2, S1 ++ S2 = S → RInv n rows r D cf S1 (clearAll S1 r) ∧ ∀ j, (gA (clearAll S1 r) j).natAbs ≤ (rows.length + 1) * b * bdI b rows.length := by
  obtain ⟨D, hD, hDb, hc⟩ := iv.siz
  obtain ⟨cf, hcf⟩ : ∃ cf : Nat × List Int → Int, ∀ e ∈ S, cf e * gA e.2 e.1 = D ∧ ∀ j, (cf e * gA e.2 j).natAbs ≤ bdI b rows.length := by
    classical
    refine ⟨fun e => if h : ∃ c : Int, c * gA e.2 e.1 = D ∧ ∀ j, (c * gA e.2 j).natAbs ≤ bdI b rows.length then Classical.choose h else 0, fun e he => ?_⟩
    have h := hc e he
    simp only [dif_pos h]
    exact Classical.choose_spec h
  refine ⟨D, cf, hD, hDb, fun e he => (hcf e he).1, fun e he => (hcf e he).2, fun S1 S2 h => ?_⟩
  have R := rinv_go iv hr hD (fun e he => (hcf e he).1) S1 [] S2 r (by simpa using h) (rinv_0 hr hD)
  rw [List.nil_append] at R
  refine ⟨R, fun j => ?_⟩
  obtain ⟨e, e0, he⟩ := R.siz
  have cn := iv.cnt
  have hl : S1.length ≤ rows.length := by
    have := congrArg List.length h
    rw [List.length_append] at this
    omega
  refine abs_le_mul e0 ?_
  show (e * gA (S1.foldl (fun r e => clearI r e.2 e.1) r) j).natAbs ≤ _
  rw [he j]
  exact u_bd S1 hbr hDb hl (fun e he => (hcf e (by rw [← h]; exact List.mem_append_left _ he)).2) j
theorem step_ok {n b : Nat} {rows : List (List Int)} {S : Sv} {r : List Int} (iv : SInv n b rows S) (hb : 1 ≤ b) (hr : r.length = n) (hbr : ∀ j, (gA r j).natAbs ≤ b) : SInv n b (rows ++ [r]) (solveStep S r) := by
  obtain ⟨D, cf, hD, hDb, hc1, hc2, hR⟩ := clearAll_ok iv hr hbr
  obtain ⟨R, hRb⟩ := hR S [] (by simp)
  obtain ⟨s1, s2, s3, s4⟩ := bdI_step (i := rows.length) hb
  have hlen : (rows ++ [r]).length = rows.length + 1 := by simp
  have kerEq : ∀ x : Nat → Int, (∀ q ∈ rows ++ [r], dotV n q x = 0) ↔ (∀ e ∈ S, dotV n e.2 x = 0) ∧ dotV n (clearAll S r) x = 0 := fun x => by
    constructor
    · intro h
      have h1 := (iv.ker x).mpr fun q hq => h q (List.mem_append_left _ hq)
      exact ⟨h1, (R.ker x h1).mpr (h r (by simp))⟩
    · rintro ⟨h1, h2⟩ q hq
      rcases List.mem_append.mp hq with hq | hq
      · exact (iv.ker x).mp h1 q hq
      · rw [List.mem_singleton.mp hq]; exact (R.ker x h1).mp h2
  unfold solveStep
  cases hf : firstP (clearAll S r) with
  | none =>
    have z := firstP_none hf
    refine ⟨iv.len, iv.piv, iv.low, iv.oth, fun x => ?_, fun e he => ?_, ⟨D, hD, by rw [hlen]; omega, fun e he => ⟨cf e, hc1 e he, fun j => by rw [hlen]; exact Nat.le_trans (hc2 e he j) s4⟩⟩, by rw [hlen]; exact Nat.le_succ_of_le iv.cnt⟩
    · rw [kerEq]
      exact ⟨fun h => ⟨h, dot_zero z x⟩, fun h => h.1⟩
    · obtain ⟨c, y, c0, yl, hy⟩ := iv.spn e he
      exact ⟨c, y ++ [0], c0, by simp [yl], fun j => by rw [linC_snoc _ _ _ _ _ yl, hy]; omega⟩
  | some l =>
    obtain ⟨l1, l2, l3⟩ := firstP_some hf
    have tl := R.len
    generalize ht : clearAll S r = t at *
    obtain ⟨e1, e0, he1⟩ := R.siz
    have ub : ∀ j, (e1 * gA t j).natAbs ≤ (rows.length + 1) * b * bdI b rows.length := fun j => by
      rw [he1 j]
      exact u_bd S hbr hDb iv.cnt hc2 j
    have cl : ∀ e ∈ S, ∃ g : Int, 0 < g ∧ ∀ j, g * gA (clearI e.2 t l) j = gA t l * gA e.2 j - gA e.2 l * gA t j := fun e he => clearI_mul l (iv.len e he).1 tl
    have mz : ∀ {g x : Int}, 0 < g → g * x = 0 → x = 0 := fun g0 h => by
      rcases Int.mul_eq_zero.mp h with y | y
      · omega
      · exact y
    refine ⟨?_, ?_, ?_, ?_, ?_, ?_, ?_, ?_⟩
    · intro e he
      rcases List.mem_append.mp he with he | he
      · obtain ⟨f, hf, rfl⟩ := List.mem_map.mp he
        exact ⟨clearI_len (iv.len f hf).1 tl, (iv.len f hf).2⟩
      · rw [List.mem_singleton.mp he]; exact ⟨tl, by show l < n; omega⟩
    · intro e he
      rcases List.mem_append.mp he with he | he
      · obtain ⟨f, hf, rfl⟩ := List.mem_map.mp he
        obtain ⟨g, g0, hg⟩ := cl f hf
        intro z
        have := hg f.1
        rw [R.zer f hf, Int.mul_zero] at this
        have z : gA (clearI f.2 t l) f.1 = 0 := z
        rw [z] at this
        exact Int.mul_ne_zero l2 (iv.piv f hf) (by omega)
      · rw [List.mem_singleton.mp he]; exact l2
    · intro e he q hq
      rcases List.mem_append.mp he with he | he
      · obtain ⟨f, hf, rfl⟩ := List.mem_map.mp he
        obtain ⟨g, g0, hg⟩ := cl f hf
        have hq : q < f.1 := hq
        have := hg q
        rw [iv.low f hf q hq] at this
        refine mz g0 (this.trans ?_)
        by_cases h : q < l
        · rw [l3 q h]; simp
        · rw [iv.low f hf l (by omega)]; simp
      · rw [List.mem_singleton.mp he] at hq ⊢; exact l3 q hq
    · rw [List.pairwise_append]
      refine ⟨?_, by simp, ?_⟩
      · rw [List.pairwise_map]
        refine List.Pairwise.imp_of_mem (fun {a c} ha hc h => ?_) iv.oth
        obtain ⟨g, g0, hg⟩ := cl a ha
        obtain ⟨g', g0', hg'⟩ := cl c hc
        refine ⟨h.1, mz g0 ((hg c.1).trans ?_), mz g0' ((hg' a.1).trans ?_)⟩
        · rw [h.2.1, R.zer c hc]; simp
        · rw [h.2.2, R.zer a ha]; simp
      · intro a ha c hc
        rw [List.mem_singleton.mp hc]
        obtain ⟨f, hf, rfl⟩ := List.mem_map.mp ha
        obtain ⟨g, g0, hg⟩ := cl f hf
        refine ⟨fun z => ?_, mz g0 ((hg l).trans ?_), R.zer f hf⟩
        · have z : f.1 = l := z
          exact l2 (by rw [← z]; exact R.zer f hf)
        · rw [Int.mul_comm]; omega
    · intro x
      rw [kerEq]
      constructor
      · intro h
        have ht := h (l, t) (by simp)
        have ht : dotV n t x = 0 := ht
        refine ⟨fun e he => ?_, ht⟩
        obtain ⟨g, g0, hg⟩ := cl e he
        have h1 := dot_rel (n := n) x hg
        have h2 : dotV n (clearI e.2 t l) x = 0 := h (e.1, clearI e.2 t l) (List.mem_append_left _ (List.mem_map.mpr ⟨e, he, rfl⟩))
        rw [h2, ht] at h1
        rcases Int.mul_eq_zero.mp (show gA t l * dotV n e.2 x = 0 by omega) with y | y
        · exact absurd y l2
        · exact y
      · rintro ⟨h, ht⟩ e he
        rcases List.mem_append.mp he with he | he
        · obtain ⟨f, hf, rfl⟩ := List.mem_map.mp he
          obtain ⟨g, g0, hg⟩ := cl f hf
          have h1 := dot_rel (n := n) x hg
          rw [h f hf, ht, Int.mul_zero, Int.mul_zero] at h1
          exact mz g0 h1
        · rw [List.mem_singleton.mp he]; exact ht
    · intro e he
      obtain ⟨c, y, c0, yl, hy⟩ := R.spn
      rcases List.mem_append.mp he with he | he
      · obtain ⟨f, hf, rfl⟩ := List.mem_map.mp he
        obtain ⟨g, g0, hg⟩ := cl f hf
        obtain ⟨c2, y2, c20, y2l, hy2⟩ := iv.spn f hf
        refine ⟨c2 * c * g, combI (gA t l * c) (gA f.2 l * c2) (y2 ++ [0]) y, Int.mul_ne_zero (Int.mul_ne_zero c20 c0) (by omega), ?_, fun j => ?_⟩
        · unfold combI
          rw [List.length_zipWith, yl]
          simp [y2l]
        · show c2 * c * g * gA (clearI f.2 t l) j = _
          rw [linC_comb _ _ _ _ _ _ (by simp [y2l]) yl, linC_snoc _ _ _ _ _ y2l, ← hy, ← hy2, Int.mul_assoc, hg j]
          rw [Int.mul_sub, Int.zero_mul, Int.add_zero]
          congr 1 <;> ac_rfl
      · rw [List.mem_singleton.mp he]; exact ⟨c, y, c0, yl, hy⟩
    · refine ⟨e1 * gA t l * D, Int.mul_ne_zero (Int.mul_ne_zero e0 l2) hD, ?_, ?_⟩
      · rw [hlen, Int.natAbs_mul, Nat.mul_comm]
        exact Nat.le_trans (Nat.mul_le_mul hDb (ub l)) s2
      · intro e he
        rcases List.mem_append.mp he with he | he
        · obtain ⟨f, hf, rfl⟩ := List.mem_map.mp he
          obtain ⟨g, g0, hg⟩ := cl f hf
          refine ⟨e1 * cf f * g, ?_, fun j => ?_⟩
          · show e1 * cf f * g * gA (clearI f.2 t l) f.1 = _
            rw [Int.mul_assoc, hg, R.zer f hf, Int.mul_zero, Int.sub_zero, ← hc1 f hf]
            ac_rfl
          · show (e1 * cf f * g * gA (clearI f.2 t l) j).natAbs ≤ _
            rw [Int.mul_assoc, hg, Int.mul_sub, hlen]
            have a1 : e1 * cf f * (gA t l * gA f.2 j) = (cf f * gA f.2 j) * (e1 * gA t l) := by ac_rfl
            have a2 : e1 * cf f * (gA f.2 l * gA t j) = (cf f * gA f.2 l) * (e1 * gA t j) := by ac_rfl
            rw [a1, a2]
            have b1 : ((cf f * gA f.2 j) * (e1 * gA t l)).natAbs ≤ bdI b rows.length * ((rows.length + 1) * b * bdI b rows.length) := by
              rw [Int.natAbs_mul]; exact Nat.mul_le_mul (hc2 f hf j) (ub l)
            have b2 : ((cf f * gA f.2 l) * (e1 * gA t j)).natAbs ≤ bdI b rows.length * ((rows.length + 1) * b * bdI b rows.length) := by
              rw [Int.natAbs_mul]; exact Nat.mul_le_mul (hc2 f hf l) (ub j)
            omega
        · rw [List.mem_singleton.mp he]
          refine ⟨e1 * D, by show e1 * D * gA t l = _; ac_rfl, fun j => ?_⟩
          show (e1 * D * gA t j).natAbs ≤ _
          rw [show e1 * D * gA t j = D * (e1 * gA t j) by ac_rfl, Int.natAbs_mul, hlen]
          exact Nat.le_trans (Nat.mul_le_mul hDb (ub j)) s2
    · rw [hlen]
      have := iv.cnt
      simp
      omega
theorem solve_ok {n b : Nat} (hb : 1 ≤ b) : ∀ (more rows : List (List Int)) (S : Sv), SInv n b rows S → (∀ r ∈ more, r.length = n ∧ ∀ j, (gA r j).natAbs ≤ b) → SInv n b (rows ++ more) (more.foldl solveStep S)
  | [], rows, S, h, _ => by simpa using h
  | r :: more, rows, S, h, hm => by
    rw [show rows ++ r :: more = (rows ++ [r]) ++ more by simp]
    exact solve_ok hb more (rows ++ [r]) _ (step_ok h hb (hm r List.mem_cons_self).1 (hm r List.mem_cons_self).2) fun q hq => hm q (List.mem_cons_of_mem _ hq)
theorem solveI_ok {n b : Nat} (hb : 1 ≤ b) {rows : List (List Int)} (h : ∀ r ∈ rows, r.length = n ∧ ∀ j, (gA r j).natAbs ≤ b) : SInv n b rows (solveI rows) := by
  have := solve_ok hb rows [] [] (sinv_nil n b) h
  rw [List.nil_append] at this
  exact this
end OS

namespace OS
/-! ### the kernel of rows, mixtures -/
def lcmN (ns : List Int) : Nat := ns.foldl (fun m x => m / Nat.gcd m x.natAbs * x.natAbs) 1
theorem lcmF : ∀ (ns : List Int) (m B k : Nat), 1 ≤ m → m ≤ B ^ k → (∀ x ∈ ns, x ≠ 0 ∧ x.natAbs ≤ B) → 1 ≤ ns.foldl (fun m x => m / Nat.gcd m x.natAbs * x.natAbs) m ∧ m ∣ ns.foldl (fun m x => m / Nat.gcd m x.natAbs * x.natAbs) m ∧
    (∀ x ∈ ns, x.natAbs ∣ ns.foldl (fun m x => m / Nat.gcd m x.natAbs * x.natAbs) m) ∧ ns.foldl (fun m x => m / Nat.gcd m x.natAbs * x.natAbs) m ≤ B ^ (k + ns.length)
  | [], m, B, k, h, hb, _ => ⟨h, Nat.dvd_refl m, by simp, by simpa using hb⟩
  | x :: ns, m, B, k, h, hb, hx => by
    obtain ⟨x0, xb⟩ := hx x List.mem_cons_self
    have g0 : 0 < Nat.gcd m x.natAbs := Nat.gcd_pos_of_pos_left _ (by omega)
    have d1 : Nat.gcd m x.natAbs ∣ m := Nat.gcd_dvd_left _ _
    have d2 : Nat.gcd m x.natAbs ∣ x.natAbs := Nat.gcd_dvd_right _ _
    have q0 : 0 < m / Nat.gcd m x.natAbs := Nat.div_pos (Nat.le_of_dvd (by omega) d1) g0
    have e1 : m ∣ m / Nat.gcd m x.natAbs * x.natAbs := by
      obtain ⟨c, hc⟩ := d2
      refine ⟨c, ?_⟩
      have hm := Nat.div_mul_cancel d1
      rw [hc]
      rw [show Nat.gcd m (Nat.gcd m x.natAbs * c) = Nat.gcd m x.natAbs by rw [← hc]]
      rw [← Nat.mul_assoc, hm]
    have e2 : x.natAbs ∣ m / Nat.gcd m x.natAbs * x.natAbs := Nat.dvd_mul_left _ _
    have e3 : 1 ≤ m / Nat.gcd m x.natAbs * x.natAbs := Nat.mul_pos q0 (by omega)
    have e4 : m / Nat.gcd m x.natAbs * x.natAbs ≤ B ^ (k + 1) := by
      rw [Nat.pow_succ]
      exact Nat.mul_le_mul (Nat.le_trans (Nat.div_le_self _ _) hb) xb
    obtain ⟨i1, i2, i3, i4⟩ := lcmF ns _ B (k + 1) e3 e4 fun y hy => hx y (List.mem_cons_of_mem _ hy)
    refine ⟨i1, Nat.dvd_trans e1 i2, fun y hy => ?_, by rw [List.length_cons, show k + (ns.length + 1) = k + 1 + ns.length by omega]; exact i4⟩
    rcases List.mem_cons.mp hy with rfl | hy
    · exact Nat.dvd_trans e2 i2
    · exact i3 y hy
theorem lcmN_ok {ns : List Int} {B : Nat} (h : ∀ x ∈ ns, x ≠ 0 ∧ x.natAbs ≤ B) : 1 ≤ lcmN ns ∧ (∀ x ∈ ns, x ∣ (lcmN ns : Int)) ∧ lcmN ns ≤ B ^ ns.length := by
  obtain ⟨i1, i2, i3, i4⟩ := lcmF ns 1 B 0 (by omega) (by simp) h
  exact ⟨i1, fun x hx => Int.natAbs_dvd.mp (Int.natCast_dvd_natCast.mpr (i3 x hx)), by rw [Nat.zero_add] at i4; exact i4⟩
def fillK (f : Nat) (m : Int) (S : Sv) (v : List Int) : List Int := S.foldl (fun it e => it.set e.1 ((-gA e.2 f * m).fdiv (gA e.2 e.1))) v
def rawK (S : Sv) (n f : Nat) : List Int := fillK f (lcmN (S.map fun e => gA e.2 e.1)) S ((List.replicate n 0).set f (lcmN (S.map fun e => gA e.2 e.1)))
def kitem (S : Sv) (n f : Nat) : List Int := shortI (rawK S n f)
def freeF (S : Sv) (n : Nat) : List Nat := (List.range n).filter fun f => decide (f ∉ S.map (·.1))
def kernI (rows : List (List Int)) (n : Nat) : List (List Int) := (freeF (solveI rows) n).map (kitem (solveI rows) n)
theorem fillK_len (f : Nat) (m : Int) : ∀ (S : Sv) (v : List Int), (fillK f m S v).length = v.length
  | [], _ => rfl
  | e :: S, v => by
    show (fillK f m S _).length = _
    rw [fillK_len f m S, List.length_set]
theorem fillK_off (f : Nat) (m : Int) (j : Nat) : ∀ (S : Sv) (v : List Int), (∀ e ∈ S, e.1 < v.length ∧ e.1 ≠ j) → gA (fillK f m S v) j = gA v j
  | [], _, _ => rfl
  | e :: S, v, h => by
    show gA (fillK f m S _) j = _
    rw [fillK_off f m j S _ fun q hq => by rw [List.length_set]; exact h q (List.mem_cons_of_mem _ hq), gA_set (h e List.mem_cons_self).1, if_neg (fun z => (h e List.mem_cons_self).2 z.symm)]
theorem fillK_on (f : Nat) (m : Int) : ∀ (S : Sv) (v : List Int), (∀ e ∈ S, e.1 < v.length) → S.Pairwise (fun a b => a.1 ≠ b.1) → ∀ e ∈ S, gA (fillK f m S v) e.1 = (-gA e.2 f * m).fdiv (gA e.2 e.1)
  | [], _, _, _, e, h => by simp at h
  | a :: S, v, h, hp, e, he => by
    show gA (fillK f m S _) e.1 = _
    rw [List.pairwise_cons] at hp
    rcases List.mem_cons.mp he with rfl | he
    · rw [fillK_off f m _ S _ fun q hq => ⟨by rw [List.length_set]; exact h q (List.mem_cons_of_mem _ hq), fun z => hp.1 q hq z.symm⟩, gA_set (h e List.mem_cons_self), if_pos rfl]
    · exact fillK_on f m S _ (fun q hq => by rw [List.length_set]; exact h q (List.mem_cons_of_mem _ hq)) hp.2 e he
/-- how great the numbers of solved rows are -/
theorem sinv_small {n b : Nat} {rows : List (List Int)} {S : Sv} (iv : SInv n b rows S) : ∀ e ∈ S, ∀ j, (gA e.2 j).natAbs ≤ bdI b rows.length := fun e he j => by
  obtain ⟨D, hD, _, h⟩ := iv.siz
  obtain ⟨c, hc, hs⟩ := h e he
  exact abs_le_mul (fun z => hD (by rw [← hc, z, Int.zero_mul])) (hs j)
structure KRaw (n b : Nat) (rows : List (List Int)) (S : Sv) (f : Nat) (m : Int) (v : List Int) : Prop where
  len : v.length = n
  m1 : 1 ≤ m
  mb : m.natAbs ≤ bdI b rows.length ^ S.length
  at_f : gA v f = m
  at_p : ∀ e ∈ S, gA e.2 e.1 * gA v e.1 = -gA e.2 f * m ∧ gA e.2 e.1 ∣ -gA e.2 f * m
  off : ∀ j, j ≠ f → j ∉ S.map (·.1) → gA v j = 0
  bd : ∀ j, (gA v j).natAbs ≤ bdI b rows.length ^ (S.length + 1)
theorem rawK_ok {n b f : Nat} {rows : List (List Int)} {S : Sv} (iv : SInv n b rows S) (hb : 1 ≤ b) (hf : f < n) (hS : f ∉ S.map (·.1)) : KRaw n b rows S f (lcmN (S.map fun e => gA e.2 e.1)) (rawK S n f) := by
  have hB := bdI_pos hb rows.length
  obtain ⟨m1, m2, m3⟩ := lcmN_ok (ns := S.map fun e => gA e.2 e.1) (B := bdI b rows.length) fun x hx => by
    obtain ⟨e, he, rfl⟩ := List.mem_map.mp hx
    exact ⟨iv.piv e he, sinv_small iv e he _⟩
  rw [List.length_map] at m3
  unfold rawK
  generalize hm : lcmN (S.map fun e => gA e.2 e.1) = m at *
  have hl : ((List.replicate n 0).set f (m : Int)).length = n := by simp
  have hlt : ∀ e ∈ S, e.1 < ((List.replicate n 0).set f (m : Int)).length := fun e he => by rw [hl]; exact (iv.len e he).2
  have hne : ∀ e ∈ S, e.1 ≠ f := fun e he z => hS (List.mem_map.mpr ⟨e, he, z⟩)
  have hpw : S.Pairwise fun a b => a.1 ≠ b.1 := iv.oth.imp fun h => h.1
  have hat : ∀ e ∈ S, gA e.2 e.1 ∣ -gA e.2 f * (m : Int) := fun e he => Int.dvd_trans (m2 _ (List.mem_map.mpr ⟨e, he, rfl⟩)) (Int.dvd_mul_left _ _)
  have hat2 : ∀ e ∈ S, gA e.2 e.1 * gA (fillK f m S ((List.replicate n 0).set f (m : Int))) e.1 = -gA e.2 f * m := fun e he => by
    rw [fillK_on f m S _ hlt hpw e he, Int.fdiv_eq_ediv_of_dvd (hat e he), Int.mul_ediv_cancel' (hat e he)]
  have hatf : gA (fillK f m S ((List.replicate n 0).set f (m : Int))) f = m := by
    rw [fillK_off f m f S _ fun e he => ⟨hlt e he, hne e he⟩, gA_set (by simpa using hf), if_pos rfl]
  have hoff : ∀ j, j ≠ f → j ∉ S.map (·.1) → gA (fillK f m S ((List.replicate n 0).set f (m : Int))) j = 0 := fun j j1 j2 => by
    rw [fillK_off f m j S _ fun e he => ⟨hlt e he, fun z => j2 (List.mem_map.mpr ⟨e, he, z⟩)⟩, gA_set (by simpa using hf), if_neg j1, gA_rep]
  have hP : bdI b rows.length ^ S.length ≤ bdI b rows.length ^ (S.length + 1) := Nat.pow_le_pow_right hB (by omega)
  refine ⟨by rw [fillK_len, hl], by omega, by simpa using m3, hatf, fun e he => ⟨hat2 e he, hat e he⟩, hoff, fun j => ?_⟩
  by_cases h1 : j = f
  · subst h1
    rw [hatf, Int.natAbs_natCast]
    omega
  · by_cases h2 : j ∈ S.map (·.1)
    · obtain ⟨e, he, rfl⟩ := List.mem_map.mp h2
      refine abs_le_mul (iv.piv e he) ?_
      rw [hat2 e he, Int.natAbs_mul, Int.natAbs_neg, Int.natAbs_natCast, Nat.pow_succ, Nat.mul_comm]
      exact Nat.mul_le_mul m3 (sinv_small iv e he f)
    · rw [hoff j h1 h2]
      simp
theorem filt_one (p : Nat) : ∀ L : List Nat, L.Nodup → L.length ≤ (L.filter fun x => decide (x ≠ p)).length + 1
  | [], _ => by simp
  | a :: L, h => by
    rw [List.nodup_cons] at h
    have ih := filt_one p L h.2
    by_cases e : a = p
    · subst e
      rw [List.filter_cons_of_neg (by simp)]
      have : L.filter (fun x => decide (x ≠ a)) = L := List.filter_eq_self.mpr fun x hx => by
        have : x ≠ a := fun z => h.1 (z ▸ hx)
        simpa using this
      rw [this]
      simp
    · rw [List.filter_cons_of_pos (by simpa using e)]
      simp only [List.length_cons]
      omega
theorem filt_cnt (P : List Nat) (n : Nat) : n ≤ ((List.range n).filter fun f => decide (f ∉ P)).length + P.length := by
  induction P with
  | nil => rw [List.filter_eq_self.mpr (by simp), List.length_range]; exact Nat.le_refl n
  | cons p P ih =>
    have e : ((List.range n).filter fun f => decide (f ∉ p :: P)) = (((List.range n).filter fun f => decide (f ∉ P)).filter fun x => decide (x ≠ p)) := by
      rw [List.filter_filter]
      congr 1
      funext x
      simp
    have := filt_one p ((List.range n).filter fun f => decide (f ∉ P)) ((List.nodup_range).sublist List.filter_sublist)
    rw [e, List.length_cons]
    omega
/-- what the kernel is -/
structure KerOk (n B : Nat) (rows vs : List (List Int)) (F : List Nat) (v : Nat → List Int) : Prop where
  eq : vs = F.map v
  nd : F.Pairwise (· < ·)
  lt : ∀ f ∈ F, f < n
  len : ∀ f ∈ F, (v f).length = n
  pos : ∀ f ∈ F, 0 < gA (v f) f
  zer : ∀ f ∈ F, ∀ g ∈ F, g ≠ f → gA (v f) g = 0
  up : ∀ f ∈ F, ∀ q, f < q → gA (v f) q = 0
  ker : ∀ f ∈ F, ∀ r ∈ rows, dotV n r (gA (v f)) = 0
  all : ∀ x : Nat → Int, (∀ r ∈ rows, dotV n r x = 0) → (∀ f ∈ F, x f = 0) → ∀ j, j < n → x j = 0
  piv : ∀ p, p < n → p ∉ F → ∃ y : List Int, y.length = rows.length ∧ (∀ q, q < p → linC y rows q = 0) ∧ linC y rows p ≠ 0
  cnt : n ≤ F.length + rows.length
  bd : ∀ f ∈ F, ∀ j, (gA (v f) j).natAbs ≤ B
theorem kernI_ok {n b : Nat} {rows : List (List Int)} (hb : 1 ≤ b) (h : ∀ r ∈ rows, r.length = n ∧ ∀ j, (gA r j).natAbs ≤ b) :
    KerOk n (bdI b rows.length ^ (rows.length + 1)) rows (kernI rows n) (freeF (solveI rows) n) (kitem (solveI rows) n) := by
  have iv := solveI_ok (n := n) hb h
  have hB := bdI_pos hb rows.length
  unfold kernI
  generalize solveI rows = S at *
  have hF : ∀ f ∈ freeF S n, f < n ∧ f ∉ S.map (·.1) := fun f hf => by
    unfold freeF at hf
    rw [List.mem_filter, List.mem_range, decide_eq_true_eq] at hf
    exact hf
  have raw : ∀ f ∈ freeF S n, KRaw n b rows S f (lcmN (S.map fun e => gA e.2 e.1)) (rawK S n f) := fun f hf => rawK_ok iv hb (hF f hf).1 (hF f hf).2
  have sm : ∀ f, ∃ g : Int, 0 < g ∧ ∀ j, gA (rawK S n f) j = g * gA (kitem S n f) j := fun f => shortI_mul _
  have mz : ∀ {g x : Int}, 0 < g → g * x = 0 → x = 0 := fun g0 h => by
    rcases Int.mul_eq_zero.mp h with y | y
    · omega
    · exact y
  refine ⟨rfl, ?_, fun f hf => (hF f hf).1, fun f hf => ?_, fun f hf => ?_, fun f hf g hg ne => ?_, fun f hf q hq => ?_, fun f hf => ?_, fun x hx hz => ?_, fun p hp hpF => ?_, ?_, fun f hf j => ?_⟩
  · unfold freeF
    exact (List.pairwise_lt_range).sublist List.filter_sublist
  · unfold kitem; rw [shortI_len]; exact (raw f hf).len
  · obtain ⟨g, g0, e⟩ := sm f
    have := e f
    rw [(raw f hf).at_f] at this
    have m1 := (raw f hf).m1
    refine Int.lt_of_not_ge fun z => ?_
    have := Int.mul_le_mul_of_nonneg_left z (show 0 ≤ g by omega)
    rw [Int.mul_zero] at this
    omega
  · obtain ⟨c, c0, e⟩ := sm f
    exact mz c0 ((e g).symm.trans ((raw f hf).off g ne (hF g hg).2))
  · obtain ⟨c, c0, e⟩ := sm f
    refine mz c0 ((e q).symm.trans ?_)
    by_cases h2 : q ∈ S.map (·.1)
    · obtain ⟨s, hs, rfl⟩ := List.mem_map.mp h2
      have := ((raw f hf).at_p s hs).1
      rw [iv.low s hs f hq] at this
      rcases Int.mul_eq_zero.mp (show gA s.2 s.1 * gA (rawK S n f) s.1 = 0 by rw [this]; simp) with y | y
      · exact absurd y (iv.piv s hs)
      · exact y
    · exact (raw f hf).off q (by omega) h2
  · rw [← iv.ker]
    intro s hs
    obtain ⟨c, c0, e⟩ := sm f
    have r := raw f hf
    have hne : s.1 ≠ f := fun z => (hF f hf).2 (List.mem_map.mpr ⟨s, hs, z⟩)
    have key : dotV n s.2 (gA (rawK S n f)) = 0 := by
      unfold dotV
      rw [sumN_two (hF f hf).1 (iv.len s hs).2 (fun z => hne z.symm)]
      · rw [r.at_f, (r.at_p s hs).1, Int.neg_mul]; omega
      · intro j _ j1 j2
        by_cases h2 : j ∈ S.map (·.1)
        · obtain ⟨t, ht, rfl⟩ := List.mem_map.mp h2
          have : gA s.2 t.1 = 0 := by
            have po := iv.oth
            rw [List.pairwise_iff_getElem] at po
            obtain ⟨i, hi, ei⟩ := List.getElem_of_mem hs
            obtain ⟨k, hk, ek⟩ := List.getElem_of_mem ht
            rcases Nat.lt_trichotomy i k with h | h | h
            · have := po i k hi hk h; rw [ei, ek] at this; exact this.2.1
            · subst h; rw [ei] at ek; exact absurd (congrArg Prod.fst ek.symm) j2
            · have := po k i hk hi h; rw [ei, ek] at this; exact this.2.2
          rw [this, Int.zero_mul]
        · rw [r.off j j1 h2, Int.mul_zero]
    unfold dotV at key ⊢
    refine mz c0 ?_
    rw [← sumN_mul, ← key]
    refine sumN_congr fun j _ => ?_
    rw [e j]
    ac_rfl
  · intro j hj
    by_cases h2 : j ∈ S.map (·.1)
    · obtain ⟨s, hs, rfl⟩ := List.mem_map.mp h2
      have h1 := (iv.ker x).mpr hx s hs
      unfold dotV at h1
      rw [sumN_one (iv.len s hs).2] at h1
      · rcases Int.mul_eq_zero.mp h1 with y | y
        · exact absurd y (iv.piv s hs)
        · exact y
      · intro k hk kn
        by_cases h3 : k ∈ S.map (·.1)
        · obtain ⟨t, ht, rfl⟩ := List.mem_map.mp h3
          have : gA s.2 t.1 = 0 := by
            have po := iv.oth
            rw [List.pairwise_iff_getElem] at po
            obtain ⟨i, hi, ei⟩ := List.getElem_of_mem hs
            obtain ⟨k, hk, ek⟩ := List.getElem_of_mem ht
            rcases Nat.lt_trichotomy i k with h | h | h
            · have := po i k hi hk h; rw [ei, ek] at this; exact this.2.1
            · subst h; rw [ei] at ek; exact absurd (congrArg Prod.fst ek.symm) kn
            · have := po k i hk hi h; rw [ei, ek] at this; exact this.2.2
          rw [this, Int.zero_mul]
        · rw [hz k (by unfold freeF; rw [List.mem_filter, List.mem_range, decide_eq_true_eq]; exact ⟨hk, h3⟩), Int.mul_zero]
    · exact hz j (by unfold freeF; rw [List.mem_filter, List.mem_range, decide_eq_true_eq]; exact ⟨hj, h2⟩)
  · have h2 : p ∈ S.map (·.1) := by
      refine Classical.byContradiction fun z => hpF ?_
      unfold freeF
      rw [List.mem_filter, List.mem_range, decide_eq_true_eq]
      exact ⟨hp, z⟩
    obtain ⟨s, hs, rfl⟩ := List.mem_map.mp h2
    obtain ⟨c, y, c0, yl, hy⟩ := iv.spn s hs
    exact ⟨y, yl, fun q hq => by rw [← hy, iv.low s hs q hq, Int.mul_zero], by rw [← hy]; exact Int.mul_ne_zero c0 (iv.piv s hs)⟩
  · have h2 := filt_cnt (S.map (·.1)) n
    rw [List.length_map] at h2
    have := iv.cnt
    unfold freeF
    omega
  · obtain ⟨c, c0, e⟩ := sm f
    refine abs_le_mul (e := c) (by omega) ?_
    rw [← e j]
    exact Nat.le_trans ((raw f hf).bd j) (Nat.pow_le_pow_right hB (by have := iv.cnt; omega))
end OS

namespace OS
/-! ### mixtures -/
theorem dotV_comm2 {n : Nat} (r x : Nat → Int) : sumN n (fun j => r j * x j) = sumN n fun j => x j * r j := sumN_congr fun j _ => Int.mul_comm _ _
/-- what is orthogonal to the kernel's tuples is orthogonal to the kernel -/
theorem KerOk.span {n B : Nat} {rows vs : List (List Int)} {F : List Nat} {v : Nat → List Int} (K : KerOk n B rows vs F v) (t : Nat → Int) (ht : ∀ f ∈ F, dotV n (v f) t = 0) (x : Nat → Int) (hx : ∀ r ∈ rows, dotV n r x = 0) : sumN n (fun j => x j * t j) = 0 := by
  have go : ∀ (L G : List Nat), (∀ f ∈ L, f ∈ F) → (∀ f ∈ G, f ∈ F) → (∀ f ∈ L, f ∉ G) → L.Nodup → (∃ (M : Int) (z : Nat → Int), M ≠ 0 ∧ (∀ r ∈ rows, dotV n r z = 0) ∧ (∀ g ∈ G, z g = 0) ∧ sumN n (fun j => z j * t j) = M * sumN n fun j => x j * t j) →
      ∃ (M : Int) (z : Nat → Int), M ≠ 0 ∧ (∀ r ∈ rows, dotV n r z = 0) ∧ (∀ g, g ∈ G ∨ g ∈ L → z g = 0) ∧ sumN n (fun j => z j * t j) = M * sumN n fun j => x j * t j := by
    intro L
    induction L with
    | nil =>
      rintro G _ _ _ _ ⟨M, z, h1, h2, h3, h4⟩
      exact ⟨M, z, h1, h2, fun g hg => h3 g (by rcases hg with h | h; exact h; simp at h), h4⟩
    | cons f L ih =>
      rintro G hL hG hd hn ⟨M, z, h1, h2, h3, h4⟩
      have fF := hL f List.mem_cons_self
      have fp := K.pos f fF
      rw [List.nodup_cons] at hn
      have step : ∃ (M : Int) (z : Nat → Int), M ≠ 0 ∧ (∀ r ∈ rows, dotV n r z = 0) ∧ (∀ g ∈ f :: G, z g = 0) ∧ sumN n (fun j => z j * t j) = M * sumN n fun j => x j * t j := by
        refine ⟨gA (v f) f * M, fun j => gA (v f) f * z j + (-z f) * gA (v f) j, Int.mul_ne_zero (by omega) h1, fun r hr => ?_, fun g hg => ?_, ?_⟩
        · have a := h2 r hr
          have b := K.ker f fF r hr
          unfold dotV at a b ⊢
          rw [show sumN n (fun j => gA r j * (gA (v f) f * z j + -z f * gA (v f) j)) = sumN n (fun j => gA (v f) f * (gA r j * z j) + (-z f) * (gA r j * gA (v f) j)) from sumN_congr fun j _ => by rw [Int.mul_add]; congr 1 <;> ac_rfl, sumN_lin, a, b]
          simp
        · rcases List.mem_cons.mp hg with rfl | h
          · show gA (v g) g * z g + -z g * gA (v g) g = 0
            rw [Int.neg_mul, Int.mul_comm (z g)]
            omega
          · show gA (v f) f * z g + -z f * gA (v f) g = 0
            rw [h3 g h, K.zer f fF g (hG g h) (fun e => hd f List.mem_cons_self (e ▸ h))]
            simp
        · have b := ht f fF
          unfold dotV at b
          rw [show sumN n (fun j => (gA (v f) f * z j + -z f * gA (v f) j) * t j) = sumN n (fun j => gA (v f) f * (z j * t j) + (-z f) * (gA (v f) j * t j)) from sumN_congr fun j _ => by rw [Int.add_mul]; congr 1 <;> ac_rfl, sumN_lin, b, h4]
          rw [Int.mul_zero, Int.add_zero, Int.mul_assoc]
      obtain ⟨M', z', k1, k2, k3, k4⟩ := ih (f :: G) (fun q hq => hL q (List.mem_cons_of_mem _ hq)) (fun q hq => by rcases List.mem_cons.mp hq with rfl | h; exact fF; exact hG q h) (fun q hq hc => by
          rcases List.mem_cons.mp hc with rfl | h
          · exact hn.1 hq
          · exact hd q (List.mem_cons_of_mem _ hq) h) hn.2 step
      refine ⟨M', z', k1, k2, fun g hg => k3 g ?_, k4⟩
      rcases hg with h | h
      · exact .inl (List.mem_cons_of_mem _ h)
      · rcases List.mem_cons.mp h with rfl | h
        · exact .inl List.mem_cons_self
        · exact .inr h
  obtain ⟨M, z, h1, h2, h3, h4⟩ := go F [] (fun _ h => h) (by simp) (by simp) (K.nd.imp fun h => Nat.ne_of_lt h) ⟨1, x, by decide, hx, by simp, by omega⟩
  have hz := K.all z h2 fun f hf => h3 f (.inr hf)
  rw [sumN_zero (fun j hj => by rw [hz j hj, Int.zero_mul])] at h4
  rcases Int.mul_eq_zero.mp h4.symm with y | y
  · exact absurd y h1
  · exact y
/-- the table of columns and a target, row by row -/
def tabI (columns : List (List Int)) (target : List Int) : List (List Int) := (List.range target.length).map fun j => columns.map (fun c => gA c j) ++ [gA target j]
theorem gA_colmap (columns : List (List Int)) (j : Nat) (z : Int) (q : Nat) (hq : q < columns.length) : gA (columns.map (fun c => gA c j) ++ [z]) q = gA (columns.getD q []) j := by
  unfold gA
  rw [List.getD_eq_getElem?_getD, List.getElem?_append_left (by simpa using hq), List.getElem?_map, List.getElem?_eq_getElem hq, List.getD_eq_getElem?_getD (l := columns), List.getElem?_eq_getElem hq]
  rfl
theorem gA_coltop (columns : List (List Int)) (j : Nat) (z : Int) : gA (columns.map (fun c => gA c j) ++ [z]) columns.length = z := by
  unfold gA
  rw [List.getD_eq_getElem?_getD, List.getElem?_append_right (by simp), List.length_map, Nat.sub_self]
  rfl
theorem linC_tab (columns : List (List Int)) (target y : List Int) (hy : y.length = target.length) (q : Nat) : linC y (tabI columns target) q = sumN target.length fun j => gA y j * gA (columns.map (fun c => gA c j) ++ [gA target j]) q := by
  have := dotI_sum (r := y) (c := (tabI columns target).map fun r => gA r q) (n := target.length) hy (by simp [tabI])
  unfold dotI at this
  rw [List.zipWith_map_right] at this
  unfold linC
  rw [this]
  unfold dotV
  refine sumN_congr fun j hj => ?_
  congr 1
  unfold tabI
  rw [List.map_map]
  show ((List.range target.length).map _).getD j 0 = _
  rw [List.getD_eq_getElem?_getD, List.getElem?_map, List.getElem?_range hj]
  rfl
/-- a target that no row tells from the columns is a mixture -/
theorem tab_free {B B' : Nat} {columns : List (List Int)} {target : List Int} {vs ws : List (List Int)} {F G : List Nat} {v w : Nat → List Int} (hl : ∀ c ∈ columns, c.length = target.length)
    (K : KerOk target.length B columns vs F v) (T : KerOk (columns.length + 1) B' (tabI columns target) ws G w) : (∀ f ∈ F, dotI (v f) target = 0) ↔ columns.length ∈ G := by
  constructor
  · intro h
    refine Classical.byContradiction fun hn => ?_
    obtain ⟨y, yl, y1, y2⟩ := T.piv columns.length (by omega) hn
    rw [show (tabI columns target).length = target.length by simp [tabI]] at yl
    rw [linC_tab _ _ _ yl] at y2
    refine y2 ?_
    rw [sumN_congr (g := fun j => gA y j * gA target j) fun j _ => by rw [gA_coltop]]
    refine K.span (gA target) (fun f hf => ?_) (gA y) fun r hr => ?_
    · rw [← h f hf, dotI_sum (K.len f hf) rfl]
    · obtain ⟨q, hq, rfl⟩ := List.getElem_of_mem hr
      have := y1 q hq
      rw [linC_tab _ _ _ yl] at this
      unfold dotV
      rw [← this]
      refine sumN_congr fun j _ => ?_
      rw [gA_colmap _ _ _ _ hq, Int.mul_comm, List.getD_eq_getElem?_getD, List.getElem?_eq_getElem hq]
      rfl
  · intro hG f hf
    have wp := T.pos _ hG
    -- each row of the table says that the target is a mixture
    have e : ∀ j, j < target.length → sumN columns.length (fun q => gA (columns.getD q []) j * gA (w columns.length) q) + gA target j * gA (w columns.length) columns.length = 0 := fun j hj => by
      have := T.ker _ hG (columns.map (fun c => gA c j) ++ [gA target j]) (by unfold tabI; exact List.mem_map.mpr ⟨j, List.mem_range.mpr hj, rfl⟩)
      unfold dotV at this
      rw [sumN, gA_coltop] at this
      rw [← this]
      congr 1
      exact sumN_congr fun q hq => by rw [gA_colmap _ _ _ _ hq]
    rw [dotI_sum (K.len f hf) rfl]
    have key : gA (w columns.length) columns.length * dotV target.length (v f) (gA target) = 0 := by
      unfold dotV
      rw [← sumN_mul]
      rw [sumN_congr (g := fun j => sumN columns.length fun q => (-gA (w columns.length) q) * (gA (columns.getD q []) j * gA (v f) j)) fun j hj => ?_]
      · -- exchange the sums
        have ex : ∀ (n k : Nat) (g : Nat → Nat → Int), sumN n (fun j => sumN k fun q => g j q) = sumN k fun q => sumN n fun j => g j q := by
          intro n k g
          induction n with
          | zero => rw [sumN]; exact (sumN_zero fun _ _ => rfl).symm
          | succ n ih =>
            rw [sumN, ih]
            have := sumN_lin k 1 1 (fun q => sumN n fun j => g j q) (fun q => g n q)
            rw [Int.one_mul, Int.one_mul] at this
            rw [← this]
            exact sumN_congr fun q _ => by rw [Int.one_mul, Int.one_mul]; rfl
        rw [ex]
        refine sumN_zero fun q hq => ?_
        rw [sumN_mul]
        have hm : columns.getD q [] ∈ columns := by
          rw [List.getD_eq_getElem?_getD, List.getElem?_eq_getElem hq]
          exact List.getElem_mem hq
        have := K.ker f hf _ hm
        unfold dotV at this
        rw [this, Int.mul_zero]
      · have := e j hj
        rw [show gA (w columns.length) columns.length * (gA (v f) j * gA target j) = gA (v f) j * (gA target j * gA (w columns.length) columns.length) by ac_rfl]
        rw [show gA target j * gA (w columns.length) columns.length = (-1) * sumN columns.length (fun q => gA (columns.getD q []) j * gA (w columns.length) q) by omega]
        rw [← sumN_mul, ← sumN_mul]
        refine sumN_congr fun q _ => ?_
        simp only [Int.neg_mul, Int.one_mul, Int.mul_neg]
        congr 1
        ac_rfl
    rcases Int.mul_eq_zero.mp key with y | y
    · omega
    · exact y
/-- when a target is no mixture -/
theorem row_iff {B : Nat} {columns : List (List Int)} {target : List Int} {vs : List (List Int)} {F : List Nat} {v : Nat → List Int} (K : KerOk target.length B columns vs F v) :
    (∃ x : Nat → Int, (∀ r ∈ columns, dotV target.length r x = 0) ∧ dotV target.length target x ≠ 0) ↔ ∃ f ∈ F, dotI (v f) target ≠ 0 := by
  constructor
  · rintro ⟨x, h1, h2⟩
    refine Classical.byContradiction fun hn => h2 ?_
    have := K.span (gA target) (fun f hf => by
      rw [← dotI_sum (K.len f hf) rfl]
      exact Classical.byContradiction fun z => hn ⟨f, hf, z⟩) x h1
    unfold dotV
    rw [← this]
    exact sumN_congr fun j _ => Int.mul_comm _ _
  · rintro ⟨f, hf, h⟩
    refine ⟨gA (v f), K.ker f hf, fun z => h ?_⟩
    rw [dotI_comm, dotI_sum rfl (K.len f hf)]
    exact z
/-- the last of the kernel's tuples, where the last place is free -/
theorem KerOk.last {n B : Nat} {rows vs : List (List Int)} {F : List Nat} {v : Nat → List Int} (K : KerOk (n + 1) B rows vs F v) (h : n ∈ F) : ∃ G, F = G ++ [n] ∧ vs = G.map v ++ [v n] := by
  have hne : F ≠ [] := fun z => by rw [z] at h; simp at h
  have e := List.dropLast_concat_getLast hne
  have hl : F.getLast hne = n := by
    have p := K.nd
    rw [← e, List.pairwise_append] at p
    have l1 := K.lt _ (List.getLast_mem hne)
    rw [← e] at h
    rcases List.mem_append.mp h with h | h
    · have := p.2.2 n h (F.getLast hne) (by simp)
      omega
    · exact (List.mem_singleton.mp h).symm
  rw [hl] at e
  exact ⟨F.dropLast, e.symm, by rw [K.eq, ← e, List.map_append]; simp⟩
end OS

namespace OS
open PySem L2 OZ PySem.Spec PyProof.Rows
/-! ### columns.py over data -/
abbrev rowD (c : Bool × List Int) : Da := sqd c.1 (c.2.map Da.int)
abbrev rowsD (u : Bool) (cs : List (Bool × List Int)) : Da := sqd u (cs.map rowD)
theorem ixd_sqd {M : Mode} {X : Cx} {KE : Kx} {P : Da → Nat → Prop} {m : Nat} {i : Int} {t : Bool} {ds : List Da} {d : Da} (h : atI ds i = some d) (k : P d m) : IxD M X KE (sqd t ds) (.int i) P m := by
  cases t
  · exact ixd_lst h k
  · exact ixd_tup h k
theorem atI_row {v : List Int} {p : Nat} (h : p < v.length) : atI (v.map Da.int) (p : Int) = some (.int (gA v p)) := by
  have := atI_pos (xs := v.map Da.int) (i := (p : Int)) (v := .int (gA v p)) (by omega) (by rw [Int.toNat_natCast, List.getElem?_map, gA_get h]; rfl)
  exact this
theorem len_small {n k : Nat} (h : n ≤ k) (hk : k ≤ 1000 := by decide) : n < sizeLine := Nat.lt_of_le_of_lt (Nat.le_trans h hk) (Nat.le_of_ble_eq_true rfl)
theorem big_mul {a b : Int} {p q : Nat} (ha : a.natAbs < 2 ^ p) (hb : b.natAbs < 2 ^ q) (h : p + q ≤ 900000 := by decide) : CMulW a b := wide_mul (a := p + 1) (b := q + 1) (Nat.lt_of_lt_of_le ha (Nat.pow_le_pow_right (by decide) (by omega))) (Nat.lt_of_lt_of_le hb (Nat.pow_le_pow_right (by decide) (by omega))) (by omega) (by omega) (by omega)
def FCheckLen (CL : Addr) : FD := fun ds KR KE m => ∃ (u : Bool) (cs : List (Bool × List Int)) (n : Nat), ds = [rowsD u cs, .int n] ∧
  ((∀ c ∈ cs, c.2.length = n) → KR .non m) ∧ (∀ i c, cs[i]? = some c → (∀ a ∈ cs.take i, a.2.length = n) → c.2.length ≠ n → KE CL [("length", .int c.2.length)] m)
def FDot : FD := fun ds KR _ m => ∃ (a b : Bool × List Int), ds = [rowD a, rowD b] ∧ a.2.length ≤ 900 ∧ b.2.length ≤ 900 ∧ (∀ x ∈ a.2, x.natAbs < 2 ^ 8000) ∧ (∀ x ∈ b.2, x.natAbs < 2 ^ 8000) ∧ KR (.int (dotI a.2 b.2)) m
def FCDiv : FD := fun ds KR _ m => ∃ a b : Int, ds = [.int a, .int b] ∧ KR (.int ((Nat.gcd a.natAbs b.natAbs : Nat) : Int)) m
def FShort : FD := fun ds KR _ m => ∃ (a : Bool × List Int), ds = [rowD a] ∧ a.2.length ≤ 900 ∧ (∀ x ∈ a.2, x.natAbs < 2 ^ 8000) ∧ KR (rowD (true, shortI a.2)) m
def FClear : FD := fun ds KR _ m => ∃ (a k : Bool × List Int) (p : Nat), ds = [rowD a, rowD k, .int p] ∧ a.2.length ≤ 900 ∧ k.2.length ≤ 900 ∧ p < a.2.length ∧ p < k.2.length ∧ (∀ x ∈ a.2, x.natAbs < 2 ^ 3000) ∧ (∀ x ∈ k.2, x.natAbs < 2 ^ 3000) ∧ KR (rowD (true, clearI a.2 k.2 p)) m
def optD : Option Nat → Da
  | none => .non | some l => .int (l : Int)
def FFirst : FD := fun ds KR _ m => ∃ (a : Bool × List Int), ds = [rowD a] ∧ a.2.length ≤ 900 ∧ KR (optD (firstP a.2)) m
def FCMul : FD := fun ds KR _ m => ∃ (v : List Int), ds = [.lst (v.map Da.int)] ∧ v.length ≤ 20 ∧ (∀ x ∈ v, x ≠ 0 ∧ x.natAbs ≤ 2 ^ 1100) ∧ KR (.int (lcmN v : Int)) m
section
variable {B : Bd} {f CL CO : Addr} {fd : FuncData}
theorem checkLen_ok (Fn : Fun B.K "check_lengths" "check_lengths" s_check_lengths f fd) (hb : Binds B.K fd ["columns", "length"] []) (T : Bn B) (U : ErrG B 1 "BadLength" CL "length") : FnG pureM B 3 f 2 (FCheckLen CL) := by
  refine fnG_okX Fn c_s_check_lengths rfl hb ?_
  rintro X ds KR KE m ⟨cdv, A, outer, s, H, E, rfl⟩ cx hr hl ⟨u, cs, n, rfl, k1, k2⟩
  show StD _ _ _ _ [.v (rowsD u cs), .v (.int n), .un] _ _
  fail "go"
  refine for_invL rowD cx (i := 2) (fun i sl' m' => ∃ s2, m' = m ∧ (∀ a ∈ cs.take i, a.2.length = n) ∧ sl' = [.v (rowsD u cs), .v (.int n), s2]) (by fail "zi") ⟨.un, rfl, by simp, rfl⟩ (by rintro n sl m ⟨_, _, _, rfl⟩; rfl) ?_ ?_
  · rintro i c sl m2 hc hi tk ⟨s2, rfl, hin, rfl⟩
    show StD _ _ _ _ [.v (rowsD u cs), .v (.int n), .v (rowD c)] _ _
    fail "go"
    rw [List.length_map]
    refine zifn (fun e => ?_) fun e => ?_
    · fail "go"
      rw [List.length_map]
      exact k2 i c hc hin (by omega)
    · fail "go"
      refine ⟨_, rfl, ?_, rfl⟩
      rw [tk]
      intro a ha
      rcases List.mem_append.mp ha with h | h
      · exact hin a h
      · rw [List.mem_singleton.mp h]; omega
  rintro sl m2 ⟨s2, rfl, hin, rfl⟩
  rw [List.take_length] at hin
  fail "go"
  exact k1 hin
theorem cdiv_ok (Fn : Fun B.K "common_divisor" "common_divisor" s_common_divisor f fd) (hb : Binds B.K fd ["first", "second"] []) (T : Bn B) (G : B.mg "gcd" = some (.builtin "math.gcd")) : FnG pureM B 1 f 2 FCDiv := by
  refine fnG_ok Fn c_s_common_divisor rfl hb ?_
  rintro X ds KR KE m ⟨cdv, A, outer, s, H, E, rfl⟩ cx hr hl ⟨a, b, rfl, k⟩
  show StD _ _ _ _ [.v (.int a), .v (.int b)] _ _
  fail "go"
  refine evd_callM cx G ?_
  fail "go"
  refine cd_gcd ?_
  exact k
theorem short_ok (Fn : Fun B.K "shortened" "shortened" s_shortened f fd) (hb : Binds B.K fd ["row"] []) (T : Bn B) (EC : CallG pureM B 1 "common_divisor" 2 FCDiv) : FnG pureM B 2 f 1 FShort := by
  refine fnG_ok Fn c_s_shortened rfl hb ?_
  rintro X ds KR KE m ⟨cdv, A, outer, s, H, E, rfl⟩ cx hr hl ⟨a, rfl, la, ha, k⟩
  show StD _ _ _ _ [.v (rowD a), .un, .un] _ _
  fail "go"
  refine for_invL Da.int cx (i := 2) (fun i sl' m' => ∃ s2, m' = m ∧ sl' = [.v (rowD a), .v (.int (gcdI (a.2.take i) : Int)), s2]) (by fail "zi") ⟨.un, rfl, rfl⟩ (by rintro n sl m ⟨_, _, rfl⟩; rfl) ?_ ?_
  · rintro i x sl m2 hx hi tk ⟨s2, rfl, rfl⟩
    show StD _ _ _ _ [.v (rowD a), .v (.int (gcdI (a.2.take i) : Int)), .v (.int x)] _ _
    fail "go"
    refine ⟨_, _, rfl, ?_⟩
    fail "go"
    refine ⟨.v (.int x), rfl, ?_⟩
    rw [tk, Int.natAbs_natCast]
    unfold gcdI
    rw [List.foldl_append]
    rfl
  rintro sl m2 ⟨s2, rfl, rfl⟩
  rw [List.take_length]
  have hg := gcdI_le (v := a.2) (B := 2 ^ 8000 - 1) fun x hx => by have := ha x hx; omega
  have hp : 0 < 2 ^ 8000 := Nat.pow_pos (by decide)
  unfold shortI at k
  generalize gcdI a.2 = g at *
  fail "go"
  refine zif (fun e => ?_) fun e => ?_
  · fail "go"
    rw [if_pos (by omega)] at k
    exact k
  rw [if_neg (by omega)] at k
  fail "go"
  refine evd_lc (own := [("item", 2)]) cx hr (.name (by fail "zi")) (.cons .nil (by fail "zs")) ?_
  refine iter_seq ?_
  fail "go"
  refine And.intro (by rw [List.length_map]; exact len_small la) ?_
  refine compd_mapL Da.int (fun x => .int (x / (g : Int))) (by fail "zi") rfl (.head _) ?_ ?_
  · rintro x hx P kk s0 H0 C0 cl0 fp0 cx' hr'
    show EvD _ _ _ _ [.v (rowD a), .v (.int (g : Int)), .v (.int x)] _ _
    fail "go"
    refine opd_fdiv (wide_div (b := 8000) (by omega) (by rw [Int.natAbs_natCast]; omega) (by decide) (by decide)) ?_
    exact kk
  fail "go"
  have k : KR (.tup ((a.2.map (· / (g : Int))).map Da.int)) m2 := k
  rw [List.map_map] at k
  exact k
theorem clear_ok (Fn : Fun B.K "_cleared" "_cleared" s_cleared f fd) (hb : Binds B.K fd ["row", "known", "place"] []) (T : Bn B) (ES : CallG pureM B 2 "shortened" 1 FShort) : FnG pureM B 3 f 3 FClear := by
  refine fnG_ok Fn c_s_cleared rfl hb ?_
  rintro X ds KR KE m ⟨cdv, A, outer, s, H, E, rfl⟩ cx hr hl ⟨a, q, p, rfl, la, lk, pa, pk, ha, hk, k⟩
  show StD _ _ _ _ [.v (rowD a), .v (rowD q), .v (.int p), .un, .un, .un] _ _
  fail "go"
  with_reducible refine st1_setLc (own := [("item", 4), ("other", 5)]) cx hr (.two (.name (by fail "zi")) (.name (by fail "zi"))) (.cons (.cons .nil (by fail "zs")) (by fail "zs")) ?_ (hN := by with_unfolding_all exact ⟨3, rfl⟩)
  refine iter_zipE cx T.zip ?_
  fail "go"
  rw [zipsD_map]
  refine And.intro (by rw [List.length_map, List.length_zip]; exact len_small (show _ ≤ 900 by omega)) ?_
  have bk := hk _ (gA_mem pk)
  have ba := ha _ (gA_mem pa)
  refine compd_mapL2 (fun e : Int × Int => .int e.1) (fun e => .int e.2) (fun e => .int (gA q.2 p * e.1 - gA a.2 p * e.2)) (by fail "zi") (by fail "zi") rfl (by simp) (by simp) ?_ ?_
  · rintro ⟨x, y⟩ he P kk s0 H0 C0 cl0 fp0 cx' hr'
    have h1 := ha x (List.of_mem_zip he).1
    have h2 := hk y (List.of_mem_zip he).2
    show EvD _ _ _ _ [.v (rowD a), .v (rowD q), .v (.int p), .un, .v (.int x), .v (.int y)] _ _
    fail "go"
    refine ixd_sqd (atI_row pk) ?_
    fail "go"
    refine opd_mulW (big_mul bk h1) ?_
    fail "go"
    refine ixd_sqd (atI_row pa) ?_
    fail "go"
    refine opd_mulW (big_mul ba h2) ?_
    fail "go"
    exact kk
  rw [show ((a.2.zip q.2).map fun e => Da.int (gA q.2 p * e.1 - gA a.2 p * e.2)) = (combI (gA q.2 p) (gA a.2 p) a.2 q.2).map Da.int by unfold combI; rw [List.zip, List.map_zipWith, List.map_zipWith]]
  fail "go"
  refine ⟨(false, combI (gA q.2 p) (gA a.2 p) a.2 q.2), rfl, ?_, fun x hx => ?_, ?_⟩
  · unfold combI
    show (List.zipWith _ _ _).length ≤ 900
    rw [List.length_zipWith]
    omega
  · unfold combI at hx
    obtain ⟨e, he, rfl⟩ := List.mem_map.mp (by rw [← List.map_uncurry_zip_eq_zipWith] at hx; exact hx)
    have h1 := ha e.1 (List.of_mem_zip he).1
    have h2 := hk e.2 (List.of_mem_zip he).2
    have m1 := wide_lt bk h1
    have m2 := wide_lt ba h2
    have p1 : 2 ^ (3000 + 3000) + 2 ^ (3000 + 3000) ≤ 2 ^ 8000 := by
      rw [← Nat.two_mul, ← Nat.pow_succ']
      exact Nat.pow_le_pow_right (by decide) (by decide)
    show (gA q.2 p * e.1 - gA a.2 p * e.2).natAbs < _
    omega
  fail "go"
  exact k
theorem first_ok (Fn : Fun B.K "_first_place" "_first_place" s_first_place f fd) (hb : Binds B.K fd ["row"] []) (T : Bn B) : FnG pureM B 1 f 1 FFirst := by
  refine fnG_ok Fn c_s_first_place rfl hb ?_
  rintro X ds KR KE m ⟨cdv, A, outer, s, H, E, rfl⟩ cx hr hl ⟨a, rfl, la, k⟩
  show StD _ _ _ _ [.v (rowD a), .un, .un] _ _
  fail "go"
  rw [enums_map]
  have hf : ∀ (v : List Int) (i : Nat), (∀ x ∈ v.take i, x = 0) → firstP v = (firstP (v.drop i)).map (· + i) := by
    intro v
    induction v with
    | nil => intro i _; simp [firstP]
    | cons y v ih =>
      intro i h
      cases i with
      | zero => simp
      | succ i =>
        have hy : y = 0 := h y (by simp)
        rw [firstP, if_neg (by omega), ih i fun x hx => h x (by simp [hx])]
        rw [List.drop_succ_cons, Option.map_map]
        congr 1
  refine for_inv2L (fun e : Int × Nat => .int (e.2 : Int)) (fun e => .int e.1) cx (i1 := 1) (i2 := 2) (fun i sl' m' => ∃ s1 s2, m' = m ∧ (∀ x ∈ a.2.take i, x = 0) ∧ sl' = [.v (rowD a), s1, s2]) (by fail "zi") (by fail "zi") ⟨.un, .un, rfl, by simp, rfl⟩ (by rintro n sl m ⟨_, _, _, _, rfl⟩; rfl) ?_ ?_
  · rintro i ⟨x, j⟩ sl m2 hx hi tk ⟨s1, s2, rfl, hz, rfl⟩
    rw [List.getElem?_zipIdx, Option.map_eq_some_iff] at hx
    obtain ⟨x', hx', e⟩ := hx
    obtain ⟨rfl, rfl⟩ := Prod.mk.inj e
    rw [Nat.zero_add]
    show StD _ _ _ _ [.v (rowD a), .v (.int (i : Int)), .v (.int x')] _ _
    have tk2 : a.2.take (i + 1) = a.2.take i ++ [x'] := by rw [List.take_succ, hx']; rfl
    fail "go"
    refine zifn (fun e => ?_) fun e => ?_
    · fail "go"
      obtain ⟨h1, h2⟩ := List.getElem?_eq_some_iff.mp hx'
      rw [hf a.2 i hz, List.drop_eq_getElem_cons h1, firstP, if_pos (by rw [h2]; omega)] at k
      simpa [optD] using k
    · fail "go"
      refine ⟨_, _, rfl, fun y hy => ?_, rfl⟩
      rw [tk2] at hy
      rcases List.mem_append.mp hy with h | h
      · exact hz y h
      · rw [List.mem_singleton.mp h]; omega
  rintro sl m2 ⟨s1, s2, rfl, hz, rfl⟩
  rw [List.length_zipIdx, List.take_length] at hz
  fail "go"
  rw [hf a.2 a.2.length (by rw [List.take_length]; exact hz), List.drop_length] at k
  exact k
theorem cmul_ok (Fn : Fun B.K "common_multiple" "common_multiple" s_common_multiple f fd) (hb : Binds B.K fd ["numbers"] []) (T : Bn B) (G : B.mg "gcd" = some (.builtin "math.gcd")) : FnG pureM B 2 f 1 FCMul := by
  refine fnG_ok Fn c_s_common_multiple rfl hb ?_
  rintro X ds KR KE m ⟨cdv, A, outer, s, H, E, rfl⟩ cx hr hl ⟨v, rfl, lv, hv, k⟩
  show StD _ _ _ _ [.v (.lst (v.map Da.int)), .un, .un] _ _
  fail "go"
  refine for_invL Da.int cx (i := 2) (fun i sl' m' => ∃ s2, m' = m ∧ sl' = [.v (.lst (v.map Da.int)), .v (.int (lcmN (v.take i) : Int)), s2]) (by fail "zi") ⟨.un, rfl, rfl⟩ (by rintro n sl m ⟨_, _, rfl⟩; rfl) ?_ ?_
  · rintro i x sl m2 hx hi tk ⟨s2, rfl, rfl⟩
    obtain ⟨x0, xb⟩ := hv x (List.mem_of_getElem? hx)
    obtain ⟨p1, _, p3⟩ := lcmN_ok (ns := v.take i) (B := 2 ^ 1100) fun y hy => hv y (List.mem_of_mem_take hy)
    have p4 : lcmN (v.take i) ≤ 2 ^ 22000 := by
      refine Nat.le_trans p3 ?_
      rw [← Nat.pow_mul]
      exact Nat.pow_le_pow_right (by decide) (by rw [List.length_take]; omega)
    have tk2 : lcmN (v.take (i + 1)) = lcmN (v.take i) / Nat.gcd (lcmN (v.take i)) x.natAbs * x.natAbs := by
      rw [tk]; unfold lcmN; rw [List.foldl_append]; rfl
    generalize lcmN (v.take i) = c at *
    show StD _ _ _ _ [.v (.lst (v.map Da.int)), .v (.int (c : Int)), .v (.int x)] _ _
    fail "go"
    refine evd_callM cx G ?_
    fail "go"
    refine cd_gcd ?_
    rw [Int.natAbs_natCast]
    have gx : Nat.gcd c x.natAbs ≤ x.natAbs := Nat.le_of_dvd (by omega) (Nat.gcd_dvd_right _ _)
    have g0 : 0 < Nat.gcd c x.natAbs := Nat.gcd_pos_of_pos_left _ (by omega)
    have b1 : 2 ^ 1100 < 2 ^ 1101 := Nat.pow_lt_pow_right (by decide) (by decide)
    refine opd_fdiv (wide_div (b := 1101) (by omega) (by rw [Int.natAbs_natCast]; omega) (by decide) (by decide)) ?_
    have b2 : 2 ^ 22000 < 2 ^ 22001 := Nat.pow_lt_pow_right (by decide) (by decide)
    fail "go"
    have e1 : (c : Int) / ((Nat.gcd c x.natAbs : Nat) : Int) = ((c / Nat.gcd c x.natAbs : Nat) : Int) := rfl
    have e2 : (if x < 0 then -x else x) = (x.natAbs : Int) := by split <;> omega
    rw [e1, e2]
    refine opd_mulW (big_mul (p := 22001) (q := 1101) ?_ ?_) ?_
    · rw [Int.natAbs_natCast]
      exact Nat.lt_of_le_of_lt (Nat.div_le_self _ _) (by omega)
    · rw [Int.natAbs_natCast]; omega
    fail "go"
    exact ⟨_, rfl, by rw [tk2]; rfl⟩
  rintro sl m2 ⟨s2, rfl, rfl⟩
  rw [List.take_length]
  fail "go"
  exact k
end
end OS

namespace OS
open PySem L2 OZ PySem.Spec PyProof.Rows
/-! ### elimination.py over data -/
abbrev Svk := List (Nat × Bool × List Int)
abbrev svD (e : Nat × Bool × List Int) : Da := .tup [.int (e.1 : Int), rowD e.2]
def svE (e : Nat × Bool × List Int) : Nat × List Int := (e.1, e.2.2)
theorem bdI_six : ∀ i : Fin 7, bdI 16384 i.val < 2 ^ 1000 := by decide +kernel
theorem bdI_6 {i : Nat} (h : i ≤ 6) : bdI 16384 i < 2 ^ 1000 := bdI_six ⟨i, by omega⟩
theorem gA_bd {v : List Int} {B : Nat} (h : ∀ x ∈ v, x.natAbs ≤ B) (j : Nat) : (gA v j).natAbs ≤ B := by
  by_cases hj : j < v.length
  · exact h _ (gA_mem hj)
  · rw [gA_out (by omega)]; simp
theorem bd_gA {v : List Int} {B : Nat} (h : ∀ j, (gA v j).natAbs < B) : ∀ x ∈ v, x.natAbs < B := fun x hx => by
  obtain ⟨j, _, rfl⟩ := mem_gA hx
  exact h j
theorem ixN_at {n : Nat} {k : Int} (h0 : 0 ≤ k) (h1 : k < (n : Int)) : ixN n k = some k.toNat := by
  unfold ixN
  rw [if_pos h0, if_pos h1]
theorem inD_nat (f : Nat) (L : List Nat) : inD (.int (f : Int)) (L.map fun e : Nat => Da.int (e : Int)) = !decide (f ∉ L) := by
  unfold inD
  rw [List.any_map]
  rw [Bool.eq_iff_iff]
  simp only [List.any_eq_true, Function.comp, Bool.not_eq_true', decide_eq_false_iff_not, Decidable.not_not]
  constructor
  · rintro ⟨x, hx, e⟩
    have : (x : Int) = (f : Int) := by simpa [deq] using e
    have : x = f := by omega
    exact this ▸ hx
  · intro h
    exact ⟨f, h, by simp [deq]⟩
theorem flat_rep : ∀ n : Nat, (List.replicate n [Da.int 0]).flatten = (List.replicate n (0 : Int)).map Da.int
  | 0 => rfl
  | n + 1 => by rw [List.replicate_succ, List.flatten_cons, flat_rep n]; rfl
/-- rows that elimination takes -/
structure Rws (n : Nat) (cs : List (Bool × List Int)) : Prop where
  c6 : cs.length ≤ 6
  n9 : n ≤ 9
  len : ∀ c ∈ cs, c.2.length = n
  sm : ∀ c ∈ cs, ∀ x ∈ c.2, x.natAbs ≤ 16384
theorem Rws.inv {n : Nat} {cs : List (Bool × List Int)} (h : Rws n cs) : ∀ r ∈ cs.map (·.2), r.length = n ∧ ∀ j, (gA r j).natAbs ≤ 16384 := fun r hr => by
  obtain ⟨c, hc, rfl⟩ := List.mem_map.mp hr
  exact ⟨h.len c hc, gA_bd (h.sm c hc)⟩
def FSolved : FD := fun ds KR _ m => ∃ (u : Bool) (cs : List (Bool × List Int)) (n : Nat), ds = [rowsD u cs] ∧ Rws n cs ∧ ∀ S : Svk, S.map svE = solveI (cs.map (·.2)) → KR (.lst (S.map svD)) m
def FKItem : FD := fun ds KR _ m => ∃ (S : Svk) (rows : List (List Int)) (n f : Nat), ds = [.lst (S.map svD), .int n, .int f] ∧ SInv n 16384 rows (S.map svE) ∧ rows.length ≤ 6 ∧ n ≤ 9 ∧ f < n ∧ f ∉ (S.map svE).map (·.1) ∧ KR (rowD (true, kitem (S.map svE) n f)) m
def FKern (CL : Addr) : FD := fun ds KR KE m => ∃ (u : Bool) (cs : List (Bool × List Int)) (n : Nat), ds = [rowsD u cs, .int n] ∧ (Rws n cs → KR (.lst ((kernI (cs.map (·.2)) n).map fun v => rowD (true, v))) m) ∧ (cs.length ≤ 6 ∧ n ≤ 9 ∧ ∀ c ∈ cs, ∀ x ∈ c.2, x.natAbs ≤ 16384) ∧
  (∀ i c, cs[i]? = some c → (∀ a ∈ cs.take i, a.2.length = n) → c.2.length ≠ n → KE CL [("length", .int c.2.length)] m)
section
variable {B : Bd} {f CL CO : Addr} {fd : FuncData}
theorem solved_ok (Fn : Fun B.K "_solved" "_solved" s_solved f fd) (hb : Binds B.K fd ["rows"] []) (T : Bn B) (EC : CallG pureM B 3 "_cleared" 3 FClear) (EF : CallG pureM B 1 "_first_place" 1 FFirst) : FnG pureM B 4 f 1 FSolved := by
  refine fnG_ok Fn c_s_solved rfl hb ?_
  rintro X ds KR KE m ⟨cdv, A, outer, s, H, E, rfl⟩ cx hr hl ⟨u, cs, n, rfl, rw, k⟩
  have n9 := rw.n9
  have c6 := rw.c6
  show StD _ _ _ _ [.v (rowsD u cs), .un, .un, .un, .un, .un, .un] _ _
  fail "go"
  refine for_invL rowD cx (i := 2) (fun i sl' m' => ∃ (S : Svk) (s2 s3 s4 s5 s6 : Sl), m' = m ∧ S.map svE = solveI ((cs.take i).map (·.2)) ∧ sl' = [.v (rowsD u cs), .v (.lst (S.map svD)), s2, s3, s4, s5, s6]) (by fail "zi") ⟨[], _, _, _, _, _, rfl, rfl, rfl⟩ (by rintro n sl m ⟨_, _, _, _, _, _, _, _, rfl⟩; rfl) ?_ ?_
  · rintro i c sl m2 hc hi tk ⟨S, s2, s3, s4, s5, s6, rfl, hS, rfl⟩
    have hcm := List.mem_of_getElem? hc
    have iv : SInv n 16384 ((cs.take i).map (·.2)) (S.map svE) := by
      rw [hS]
      exact solveI_ok (by decide) fun r hr => by
        obtain ⟨a, ha, rfl⟩ := List.mem_map.mp hr
        exact rw.inv _ (List.mem_map.mpr ⟨a, List.mem_of_mem_take ha, rfl⟩)
    have rl : ((cs.take i).map (·.2)).length = i := by rw [List.length_map, List.length_take]; omega
    obtain ⟨D, cf, hD, hDb, h1, h2, hR⟩ := clearAll_ok iv (rw.len c hcm) (gA_bd (rw.sm c hcm))
    have step := (bdI_step (b := 16384) (i := i) (by decide)).1
    have top := bdI_6 (show i + 1 ≤ 6 by omega)
    have sS : ∀ e ∈ S, e.1 < n ∧ e.2.2.length = n ∧ ∀ x ∈ e.2.2, x.natAbs < 2 ^ 1000 := fun e he => by
      have hm : svE e ∈ S.map svE := List.mem_map.mpr ⟨e, he, rfl⟩
      obtain ⟨l1, l2⟩ := iv.len _ hm
      refine ⟨l2, l1, bd_gA fun j => ?_⟩
      have := sinv_small iv _ hm j
      rw [rl] at this
      exact Nat.lt_of_le_of_lt this (bdI_6 (by omega))
    have up : ∀ x : Nat, x < 2 ^ 1000 → x < 2 ^ 3000 := fun x hx => Nat.lt_of_lt_of_le hx (Nat.pow_le_pow_right (by decide) (by decide))
    show StD _ _ _ _ [.v (rowsD u cs), .v (.lst (S.map svD)), .v (rowD c), s3, s4, s5, s6] _ _
    fail "go"
    refine for_inv2L (fun e : Nat × Bool × List Int => .int (e.1 : Int)) (fun e => rowD e.2) cx (i1 := 4) (i2 := 5) (fun j sl' m' => ∃ (t : Bool) (s4 s5 : Sl), m' = m2 ∧ sl' = [.v (rowsD u cs), .v (.lst (S.map svD)), .v (rowD c), .v (rowD (t, clearAll ((S.take j).map svE) c.2)), s4, s5, s6]) (by fail "zi") (by fail "zi") ⟨c.1, _, _, rfl, rfl⟩ (by rintro n sl m ⟨_, _, _, _, rfl⟩; rfl) ?_ ?_
    · rintro j e sl m3 he hj tk2 ⟨t, s4, s5, rfl, rfl⟩
      obtain ⟨R, Rb⟩ := hR ((S.take j).map svE) ((S.drop j).map svE) (by rw [← List.map_append, List.take_append_drop])
      obtain ⟨e1, e2, e3⟩ := sS e (List.mem_of_getElem? he)
      have nx : clearAll ((S.take (j + 1)).map svE) c.2 = clearI (clearAll ((S.take j).map svE) c.2) e.2.2 e.1 := by
        rw [tk2, List.map_append]
        unfold clearAll
        rw [List.foldl_append]
        rfl
      show StD _ _ _ _ [.v (rowsD u cs), .v (.lst (S.map svD)), .v (rowD c), .v (rowD (t, clearAll ((S.take j).map svE) c.2)), .v (.int (e.1 : Int)), .v (rowD e.2), s6] _ _
      fail "go"
      have tl := R.len
      refine ⟨(t, clearAll ((S.take j).map svE) c.2), e.2, e.1, rfl, Nat.le_trans (Nat.le_of_eq tl) (by omega), by omega, Nat.lt_of_lt_of_le e1 (Nat.le_of_eq tl.symm), by omega, ?_, fun x hx => up _ (e3 x hx), ?_⟩
      · refine bd_gA fun q => up _ ?_
        have := Rb q
        rw [rl] at this
        exact Nat.lt_of_le_of_lt (Nat.le_trans this step) top
      fail "go"
      exact ⟨true, _, _, rfl, by rw [nx]⟩
    rintro sl m3 ⟨t, s4, s5, rfl, rfl⟩
    rw [List.take_length]
    obtain ⟨R, Rb⟩ := hR (S.map svE) [] (by simp)
    have tl := R.len
    have tb : ∀ x ∈ clearAll (S.map svE) c.2, x.natAbs < 2 ^ 1000 := bd_gA fun q => by
      have := Rb q
      rw [rl] at this
      exact Nat.lt_of_le_of_lt (Nat.le_trans this step) top
    have sol : solveI ((cs.take (i + 1)).map (·.2)) = solveStep (S.map svE) c.2 := by
      rw [tk, List.map_append]
      unfold solveI
      rw [List.foldl_append]
      show solveStep (solveI _) c.2 = _
      rw [hS]
    unfold solveStep at sol
    generalize ht : clearAll (S.map svE) c.2 = tt at *
    fail "go"
    refine ⟨(t, tt), rfl, Nat.le_trans (Nat.le_of_eq tl) (by omega), ?_⟩
    show ∃ i sl', EnvSet _ _ _ _ (.v (optD (firstP tt))) _ ∧ _
    cases hf : firstP tt with
    | none =>
      rw [hf] at sol
      fail "go"
      exact ⟨S, _, _, _, _, _, rfl, sol.symm, rfl⟩
    | some l =>
      rw [hf] at sol
      obtain ⟨l1, l2, l3⟩ := firstP_some hf
      refine ⟨_, _, by fail "zs", ?_⟩
      show StD _ _ _ _ [.v (rowsD u cs), .v (.lst (S.map svD)), .v (rowD c), .v (rowD (t, tt)), s4, s5, .v (.int (l : Int))] _ _
      fail "go"
      have ph : PubHint 1 := trivial
      with_reducible refine st1_setLcM (own := [("place", 4), ("known", 5)]) cx hr (.two (.name (by fail "zi")) (.name (by fail "zi"))) (.cons (.cons .nil (by fail "zs")) (by fail "zs")) ?_ (hN := by with_unfolding_all exact ⟨1, rfl⟩)
      refine iter_seq ?_
      fail "go"
      have cnt := iv.cnt
      rw [rl, List.length_map] at cnt
      refine And.intro (by rw [List.length_map]; exact len_small (show S.length ≤ 6 by omega)) ?_
      refine compd_mapL2 (fun e : Nat × Bool × List Int => .int (e.1 : Int)) (fun e => rowD e.2) (fun e => svD (e.1, true, clearI e.2.2 tt l)) (by fail "zi") (by fail "zi") rfl (by simp) (by simp) ?_ ?_
      · rintro e he P kk s0 H0 C0 cl0 fp0 cx' hr'
        obtain ⟨e1, e2, e3⟩ := sS e he
        show EvD _ _ _ _ [.v (rowsD u cs), .v (.lst (S.map svD)), .v (rowD c), .v (rowD (t, tt)), .v (.int (e.1 : Int)), .v (rowD e.2), .v (.int (l : Int))] _ _
        fail "go"
        refine ⟨e.2, (t, tt), l, rfl, by omega, Nat.le_trans (Nat.le_of_eq tl) (by omega), by omega, l1, fun x hx => up _ (e3 x hx), fun x hx => up _ (tb x hx), ?_⟩
        fail "go"
        exact kk
      refine ⟨_, _, by fail "zs", ?_⟩
      fail "go"
      refine ⟨S.map (fun e => (e.1, true, clearI e.2.2 tt l)) ++ [(l, t, tt)], .v (rowD c), .v (rowD (t, tt)), s4, s5, .v (.int (l : Int)), rfl, ?_, ?_⟩
      · rw [sol, List.map_append, List.map_map]
        show _ = (S.map svE).map (fun e => (e.1, clearI e.2 tt l)) ++ [(l, tt)]
        rw [List.map_map]
        rfl
      · rw [List.map_append, List.map_map]
        rfl
  rintro sl m2 ⟨S, s2, s3, s4, s5, s6, rfl, hS, rfl⟩
  rw [List.take_length] at hS
  fail "go"
  exact k S hS
theorem kitem_ok (Fn : Fun B.K "_kernel_item" "_kernel_item" s_kernel_item f fd) (hb : Binds B.K fd ["solved", "width", "free"] []) (T : Bn B) (EM : CallG pureM B 2 "common_multiple" 1 FCMul) (ES : CallG pureM B 2 "shortened" 1 FShort) : FnG pureM B 3 f 3 FKItem := by
  refine fnG_ok Fn c_s_kernel_item rfl hb ?_
  rintro X ds KR KE m ⟨cdv, A, outer, s, H, E, rfl⟩ cx hr hl ⟨S, rows, n, f, rfl, iv, r6, n9, hf, hfS, k⟩
  have hh : OwnHint "items" := trivial
  have raw := rawK_ok iv (by decide) hf hfS
  have cnt := iv.cnt
  rw [List.length_map] at cnt
  have top := bdI_6 r6
  have sS : ∀ e ∈ S, e.1 < n ∧ e.2.2.length = n ∧ gA e.2.2 e.1 ≠ 0 ∧ ∀ x ∈ e.2.2, x.natAbs < 2 ^ 1000 := fun e he => by
    have hm : svE e ∈ S.map svE := List.mem_map.mpr ⟨e, he, rfl⟩
    obtain ⟨l1, l2⟩ := iv.len _ hm
    refine ⟨l2, l1, iv.piv _ hm, bd_gA fun j => Nat.lt_of_le_of_lt (sinv_small iv _ hm j) top⟩
  show StD _ _ _ _ [.v (.lst (S.map svD)), .v (.int n), .v (.int f), .un, .un, .un, .un] _ _
  fail "go"
  refine evd_lc (own := [("place", 4), ("row", 5)]) cx hr (.two (.name (by fail "zi")) (.name (by fail "zi"))) (.cons (.cons .nil (by fail "zs")) (by fail "zs")) ?_
  refine iter_seq ?_
  fail "go"
  refine And.intro (by rw [List.length_map]; exact len_small (show S.length ≤ 6 by omega)) ?_
  refine compd_mapL2 (fun e : Nat × Bool × List Int => .int (e.1 : Int)) (fun e => rowD e.2) (fun e => .int (gA e.2.2 e.1)) (by fail "zi") (by fail "zi") rfl (by simp) (by simp) ?_ ?_
  · rintro e he P kk s0 H0 C0 cl0 fp0 cx' hr'
    obtain ⟨e1, e2, e3, e4⟩ := sS e he
    show EvD _ _ _ _ [.v (.lst (S.map svD)), .v (.int n), .v (.int f), .un, .v (.int (e.1 : Int)), .v (rowD e.2), .un] _ _
    fail "go"
    refine ixd_sqd (atI_row (by omega)) ?_
    exact kk
  have mE : (S.map fun e => Da.int (gA e.2.2 e.1)) = ((S.map svE).map fun e => gA e.2 e.1).map Da.int := by rw [List.map_map, List.map_map]; rfl
  rw [mE]
  fail "go"
  have b1 : 2 ^ 1000 < 2 ^ 1100 := Nat.pow_lt_pow_right (by decide) (by decide)
  refine ⟨(S.map svE).map fun e => gA e.2 e.1, rfl, by rw [List.length_map, List.length_map]; omega, fun x hx => ?_, ?_⟩
  · rw [List.map_map] at hx
    obtain ⟨e, he, rfl⟩ := List.mem_map.mp hx
    obtain ⟨e1, e2, e3, e4⟩ := sS e he
    have := e4 _ (gA_mem (v := e.2.2) (j := e.1) (by omega))
    exact ⟨e3, by show (gA e.2.2 e.1).natAbs ≤ _; omega⟩
  have kraw : rawK (S.map svE) n f = fillK f (lcmN ((S.map svE).map fun e => gA e.2 e.1)) (S.map svE) ((List.replicate n 0).set f (lcmN ((S.map svE).map fun e => gA e.2 e.1))) := rfl
  have mb := raw.mb
  have m1 := raw.m1
  generalize hM : lcmN ((S.map svE).map fun e => gA e.2 e.1) = M at *
  have MB : M < 2 ^ 6001 := by
    rw [Int.natAbs_natCast, List.length_map] at mb
    have h1 : bdI 16384 rows.length ^ S.length ≤ (2 ^ 1000) ^ S.length := Nat.pow_le_pow_left (by omega) _
    rw [← Nat.pow_mul] at h1
    have h2 : 2 ^ (1000 * S.length) ≤ 2 ^ 6000 := Nat.pow_le_pow_right (by decide) (by omega)
    have h3 : 2 ^ 6000 < 2 ^ 6001 := Nat.pow_lt_pow_right (by decide) (by decide)
    omega
  fail "go"
  refine ⟨_, _, rfl, rfl, by omega, by omega, by rw [Int.toNat_natCast]; exact Nat.le_of_lt (len_small (show 1 * n ≤ 900 by omega)), ?_⟩
  have e0 : (List.replicate (n : Int).toNat [Da.int 0]).flatten = (List.replicate n (0 : Int)).map Da.int := by
    rw [Int.toNat_natCast]; exact flat_rep n
  rw [e0]
  fail "go"
  refine ⟨_, f, rfl, ixN_at (by omega) (by rw [List.length_map, List.length_replicate]; omega), ?_⟩
  refine ⟨_, _, by fail "zs", ?_⟩
  rw [show ((List.replicate n (0 : Int)).map Da.int).set f (.int (M : Int)) = ((List.replicate n (0 : Int)).set f (M : Int)).map Da.int by rw [List.map_set]]
  fail "go"
  refine for_inv2L (fun e : Nat × Bool × List Int => .int (e.1 : Int)) (fun e => rowD e.2) cx (i1 := 4) (i2 := 5) (fun j sl' m' => ∃ (s4 s5 : Sl), m' = m ∧ sl' = [.v (.lst (S.map svD)), .v (.int n), .v (.int f), .v (.int (M : Int)), s4, s5, .m (.lst ((fillK f M ((S.take j).map svE) ((List.replicate n 0).set f (M : Int))).map Da.int))]) (by fail "zi") (by fail "zi") ⟨_, _, rfl, rfl⟩ (by rintro n sl m ⟨_, _, _, rfl⟩; rfl) ?_ ?_
  · rintro j e sl m3 he hj tk2 ⟨s4, s5, rfl, rfl⟩
    obtain ⟨e1, e2, e3, e4⟩ := sS e (List.mem_of_getElem? he)
    have nx : fillK f M ((S.take (j + 1)).map svE) ((List.replicate n 0).set f (M : Int)) = (fillK f M ((S.take j).map svE) ((List.replicate n 0).set f (M : Int))).set e.1 ((-gA e.2.2 f * M).fdiv (gA e.2.2 e.1)) := by
      rw [tk2, List.map_append]
      unfold fillK
      rw [List.foldl_append]
      rfl
    have fl : (fillK f M ((S.take j).map svE) ((List.replicate n 0).set f (M : Int))).length = n := by rw [fillK_len]; simp
    generalize fillK f M ((S.take j).map svE) ((List.replicate n 0).set f (M : Int)) = vv at *
    show StD _ _ _ _ [.v (.lst (S.map svD)), .v (.int n), .v (.int f), .v (.int (M : Int)), .v (.int (e.1 : Int)), .v (rowD e.2), .m (.lst (vv.map Da.int))] _ _
    have bf := e4 _ (gA_mem (v := e.2.2) (j := f) (by omega))
    have bp := e4 _ (gA_mem (v := e.2.2) (j := e.1) (by omega))
    fail "go"
    refine ixd_sqd (atI_row (by omega)) ?_
    fail "go"
    refine opd_mulW (big_mul (p := 1000) (q := 6001) (by rw [Int.natAbs_neg]; exact bf) (by rw [Int.natAbs_natCast]; exact MB)) ?_
    fail "go"
    refine ixd_sqd (atI_row (by omega)) ?_
    refine opd_fdivX (cdivZ (b := 1000) e3 bp (by decide) (by decide)) ?_
    fail "go"
    refine ⟨_, e.1, rfl, ixN_at (by omega) (by rw [List.length_map]; omega), ?_⟩
    refine ⟨_, _, by fail "zs", ?_⟩
    fail "go"
    exact ⟨_, _, rfl, by rw [nx, List.map_set]⟩
  rintro sl m3 ⟨s4, s5, rfl, rfl⟩
  rw [List.take_length, ← kraw]
  refine std_pub (i := 6) rfl ?_
  show StD _ _ _ _ [.v (.lst (S.map svD)), .v (.int n), .v (.int f), .v (.int (M : Int)), s4, s5, .v (rowD (false, rawK (S.map svE) n f))] _ _
  fail "go"
  refine ⟨(false, rawK (S.map svE) n f), rfl, Nat.le_trans (Nat.le_of_eq raw.len) (by omega), bd_gA fun j => ?_, ?_⟩
  · have := raw.bd j
    rw [List.length_map] at this
    refine Nat.lt_of_le_of_lt this ?_
    have h1 : bdI 16384 rows.length ^ (S.length + 1) ≤ (2 ^ 1000) ^ (S.length + 1) := Nat.pow_le_pow_left (by omega) _
    rw [← Nat.pow_mul] at h1
    have h2 : 2 ^ (1000 * (S.length + 1)) ≤ 2 ^ 7000 := Nat.pow_le_pow_right (by decide) (by omega)
    have h3 : 2 ^ 7000 < 2 ^ 8000 := Nat.pow_lt_pow_right (by decide) (by decide)
    omega
  fail "go"
  exact k
theorem kern_ok (Fn : Fun B.K "kernel" "kernel" s_kernel f fd) (hb : Binds B.K fd ["rows", "width"] []) (T : Bn B) (EL : CallG pureM B 3 "check_lengths" 2 (FCheckLen CL)) (ES : CallG pureM B 4 "_solved" 1 FSolved) (EI : CallG pureM B 3 "_kernel_item" 3 FKItem) : FnG pureM B 5 f 2 (FKern CL) := by
  refine fnG_okX Fn c_s_kernel rfl hb ?_
  rintro X ds KR KE m ⟨cdv, A, outer, s, H, E, rfl⟩ cx hr hl ⟨u, cs, n, rfl, k1, ⟨c6, n9, sm⟩, k2⟩
  show StD _ _ _ _ [.v (rowsD u cs), .v (.int n), .un, .un, .un, .un, .un] _ _
  fail "go"
  refine ⟨u, cs, n, rfl, fun hlen => ?_, k2⟩
  have rw : Rws n cs := ⟨c6, n9, hlen, sm⟩
  have k1 := k1 rw
  fail "go"
  refine ⟨u, cs, n, rfl, rw, fun S hS => ?_⟩
  have iv : SInv n 16384 (cs.map (·.2)) (S.map svE) := by rw [hS]; exact solveI_ok (by decide) rw.inv
  have cnt := iv.cnt
  rw [List.length_map, List.length_map] at cnt
  fail "go"
  refine evd_lc (own := [("place", 4), ("_", 5)]) cx hr (.two (.name (by fail "zi")) (.name (by fail "zi"))) (.cons (.cons .nil (by fail "zs")) (by fail "zs")) ?_
  refine iter_seq ?_
  fail "go"
  refine And.intro (by rw [List.length_map]; exact len_small (show S.length ≤ 6 by omega)) ?_
  refine compd_mapL2 (fun e : Nat × Bool × List Int => .int (e.1 : Int)) (fun e => rowD e.2) (fun e => .int (e.1 : Int)) (by fail "zi") (by fail "zi") rfl (by simp) (by simp) ?_ ?_
  · rintro e he P kk s0 H0 C0 cl0 fp0 cx' hr'
    show EvD _ _ _ _ [.v (rowsD u cs), .v (.int n), .v (.lst (S.map svD)), .un, .v (.int (e.1 : Int)), .v (rowD e.2), .un] _ _
    fail "go"
    exact kk
  fail "go"
  refine evd_lc (own := [("free", 6)]) cx hr (.name (by fail "zi")) (.cons .nil (by fail "zs")) ?_
  refine iter_range cx T.range ?_
  fail "go"
  refine And.intro (by rw [intsD_len]; exact len_small (show _ ≤ 9 by omega)) ?_
  rw [intsD_map]
  have hin : ∀ f : Nat, inD (.int (f : Int)) (S.map fun e => Da.int (e.1 : Int)) = !decide (f ∉ (S.map svE).map (·.1)) := fun f => by
    have := inD_nat f ((S.map svE).map (·.1))
    rw [show S.map (fun e => Da.int (e.1 : Int)) = (((S.map svE).map (·.1)).map fun e : Nat => Da.int (e : Int)) by rw [List.map_map, List.map_map]; rfl]
    exact this
  refine compd_filtL (fun f : Nat => Da.int (f : Int)) (fun f => decide (f ∉ (S.map svE).map (·.1))) (fun f => rowD (true, kitem (S.map svE) n f)) (by fail "zi") rfl (by simp) ?_ ?_ ?_
  · rintro f hf P kk s0 H0 C0 cl0 fp0 cx' hr'
    show EvT _ _ _ _ [.v (rowsD u cs), .v (.int n), .v (.lst (S.map svD)), .v (.lst (S.map fun e => Da.int (e.1 : Int))), .un, .un, .v (.int (f : Int))] _ _
    fail "go"
    refine opd_ninL rfl ?_ ?_
    · rw [List.all_map]; exact List.all_eq_true.mpr fun _ _ => rfl
    rw [hin, Bool.not_not]
    fail "go"
    exact kk
  · rintro f hf ht P kk s0 H0 C0 cl0 fp0 cx' hr'
    show EvD _ _ _ _ [.v (rowsD u cs), .v (.int n), .v (.lst (S.map svD)), .v (.lst (S.map fun e => Da.int (e.1 : Int))), .un, .un, .v (.int (f : Int))] _ _
    fail "go"
    refine ⟨S, cs.map (·.2), n, f, rfl, iv, by rw [List.length_map]; exact c6, n9, by have := List.mem_range.mp hf; omega, by simpa using ht, ?_⟩
    fail "go"
    exact kk
  fail "go"
  rw [Int.toNat_natCast]
  unfold kernI freeF at k1
  rw [← hS, List.map_map] at k1
  exact k1
end
end OS

namespace OS
open PySem L2 OZ PySem.Spec PyProof.Rows
/-! ### lists of integers, tables of them -/
abbrev lsD (v : List Int) : Da := rowD (false, v)
abbrev lsL (vs : List (List Int)) : List (Bool × List Int) := vs.map fun v => (false, v)
theorem lsL_snd (vs : List (List Int)) : (lsL vs).map (·.2) = vs := by rw [List.map_map]; exact List.map_id _
theorem lsL_D (vs : List (List Int)) : rowsD false (lsL vs) = .lst (vs.map lsD) := by
  show Da.lst _ = _
  rw [List.map_map]
  rfl
theorem getD_mem {α : Type} {xs : List α} {k : Nat} {d : α} (h : k < xs.length) : xs.getD k d ∈ xs := by
  rw [List.getD_eq_getElem?_getD, List.getElem?_eq_getElem h]
  exact List.getElem_mem h
theorem atI_map {α : Type} (g : α → Da) {xs : List α} {k : Nat} {d : α} (h : k < xs.length) : atI (xs.map g) (k : Int) = some (g (xs.getD k d)) := by
  refine atI_pos (by omega) ?_
  rw [Int.toNat_natCast, List.getElem?_map, List.getD_eq_getElem?_getD, List.getElem?_eq_getElem h]
  rfl
theorem ixd_row {M : Mode} {X : Cx} {KE : Kx} {P : Da → Nat → Prop} {m p : Nat} {t : Bool} {v : List Int} (h : p < v.length) (k : P (.int (gA v p)) m) : IxD M X KE (rowD (t, v)) (.int (p : Int)) P m := ixd_sqd (atI_row h) k
/-- a table of columns -/
structure Tab (n s : Nat) (vs : List (List Int)) : Prop where
  len : ∀ v ∈ vs, v.length = n
  sm : ∀ v ∈ vs, ∀ x ∈ v, x.natAbs ≤ s
theorem Tab.rws {n s : Nat} {vs : List (List Int)} (h : Tab n s vs) (c6 : vs.length ≤ 6) (n9 : n ≤ 9) (hs : s ≤ 16384) (cs : List (Bool × List Int)) (e : cs.map (·.2) = vs) : Rws n cs := by
  have hl : cs.length = vs.length := by rw [← e, List.length_map]
  refine ⟨by omega, n9, fun c hc => h.len c.2 (by rw [← e]; exact List.mem_map.mpr ⟨c, hc, rfl⟩), fun c hc x hx => Nat.le_trans (h.sm c.2 (by rw [← e]; exact List.mem_map.mpr ⟨c, hc, rfl⟩) x hx) hs⟩
theorem lsD_pl (v : List Int) : plD (lsD v) = true := by show plDs (v.map Da.int) = true; exact plDs_map _ (fun _ => rfl) _
theorem lsD_dpt (v : List Int) : dpt (lsD v) ≤ 9 := by
  show dpts (v.map Da.int) + 1 ≤ 9
  have := dpts_le Da.int 1 (fun _ => Nat.le_of_ble_eq_true rfl) v
  omega
theorem tabs_pl (vs : List (List Int)) : plD (.lst (vs.map lsD)) = true ∧ dpt (.lst (vs.map lsD)) ≤ 64 := by
  refine ⟨plDs_map _ lsD_pl _, ?_⟩
  show dpts (vs.map lsD) + 1 ≤ 64
  have := dpts_le lsD 9 lsD_dpt vs
  omega
theorem strs_pl (vs : List Str) : plD (.lst (vs.map Da.str)) = true ∧ dpt (.lst (vs.map Da.str)) ≤ 64 := by
  refine ⟨plDs_map _ (fun _ => rfl) _, ?_⟩
  show dpts (vs.map Da.str) + 1 ≤ 64
  have := dpts_le Da.str 1 (fun _ => Nat.le_of_ble_eq_true rfl) vs
  omega
theorem sum_range (n : Nat) (f : Nat → Int) : ((List.range n).map f).sum = sumN n f := by
  induction n with
  | zero => rfl
  | succ n ih => rw [List.range_succ, List.map_append, List.sum_append, ih]; simp [sumN]
theorem lsD_inj {v w : List Int} (h : lsD v = lsD w) : v = w := by
  have h : Da.lst (v.map Da.int) = Da.lst (w.map Da.int) := h
  injection h with h
  exact (List.map_inj_right (fun a b e => by injection e)).mp h
def FIsInt : FD := fun ds KR _ m => ∃ i : Int, ds = [.int i] ∧ KR (.bl true) m
section
variable {B : Bd} {f : Addr} {fd : FuncData}
theorem isint_ok (Fn : Fun B.K "_law_is_integer" "_law_is_integer" l_is_integer f fd) (hb : Binds B.K fd ["_law_actual"] []) (T : Bn B) (k1 : KitG B.K (.type "int") (.type "int") true) (k2 : KitG B.K (.type "int") (.type "bool") false) : FnG pureM B 1 f 1 FIsInt := by
  refine fnG_ok Fn c_l_is_integer rfl hb ?_
  rintro X ds KR KE m ⟨cdv, A, outer, s, H, E, rfl⟩ cx hr hl ⟨i, rfl, k⟩
  show StD _ _ _ _ [.v (.int i)] _ _
  fail "go"
  exact k
end
end OS

namespace OS
open PySem L2 OZ PySem.Spec PyProof.Rows
/-! ### the rank by elimination in place (law_k23) -/
/-- rows that have no other sum of 0 than the empty one -/
def Indep (n : Nat) (T : List (List Int)) : Prop := ∀ w : Nat → Int, (∀ j, j < n → sumN T.length (fun k => w k * gA (T.getD k []) j) = 0) → ∀ k, k < T.length → w k = 0
def KerT (n : Nat) (T : List (List Int)) (x : Nat → Int) : Prop := ∀ k, k < T.length → dotV n (T.getD k []) x = 0
theorem sumN_sub (c : Nat) (f g : Nat → Int) : sumN c f - sumN c g = sumN c fun k => f k - g k := by
  have := sumN_lin c 1 (-1) f g
  rw [sumN_congr (f := fun k => f k - g k) (g := fun j => 1 * f j + -1 * g j) (fun k _ => by omega), this]
  omega
/-- one row less a multiple of another -/
structure RowOp (n r k : Nat) (top f : Int) (T T' : List (List Int)) : Prop where
  len : T'.length = T.length
  rl : r < T.length
  kl : k < T.length
  ne : k ≠ r
  tp : top ≠ 0
  at' : ∀ j, j < n → gA (T'.getD k []) j = top * gA (T.getD k []) j - f * gA (T.getD r []) j
  other : ∀ i, i ≠ k → T'.getD i [] = T.getD i []
theorem RowOp.ker {n r k : Nat} {top f : Int} {T T' : List (List Int)} (h : RowOp n r k top f T T') (x : Nat → Int) : KerT n T' x ↔ KerT n T x := by
  have e : dotV n (T'.getD k []) x = top * dotV n (T.getD k []) x - f * dotV n (T.getD r []) x := by
    unfold dotV
    rw [← sumN_mul, ← sumN_mul, sumN_sub]
    refine sumN_congr fun j hj => ?_
    rw [h.at' j hj, Int.sub_mul, Int.mul_assoc, Int.mul_assoc]
  constructor
  · intro K i hi
    have hr := K r (by rw [h.len]; exact h.rl)
    rw [h.other r (fun z => h.ne z.symm)] at hr
    by_cases z : i = k
    · subst z
      have := K i (by rw [h.len]; exact hi)
      rw [e, hr, Int.mul_zero, Int.sub_zero] at this
      exact (Int.mul_eq_zero.mp this).resolve_left h.tp
    · have := K i (by rw [h.len]; exact hi)
      rwa [h.other i z] at this
  · intro K i hi
    rw [h.len] at hi
    by_cases z : i = k
    · subst z
      rw [e, K i hi, K r h.rl, Int.mul_zero, Int.mul_zero]
      rfl
    · rw [h.other i z]
      exact K i hi
theorem RowOp.ind {n r k : Nat} {top f : Int} {T T' : List (List Int)} (h : RowOp n r k top f T T') (I : Indep n T) : Indep n T' := by
  intro w hw
  rw [h.len] at hw ⊢
  have key : ∀ i, i < T.length → (if i = k then top * w k else if i = r then w r - f * w k else w i) = 0 := by
    refine I (fun i => if i = k then top * w k else if i = r then w r - f * w k else w i) fun j hj => ?_
    have d := sumN_sub T.length (fun i => (if i = k then top * w k else if i = r then w r - f * w k else w i) * gA (T.getD i []) j) (fun i => w i * gA (T'.getD i []) j)
    rw [hw j hj, Int.sub_zero] at d
    rw [d, sumN_two h.kl h.rl h.ne fun i hi n1 n2 => ?_]
    · simp only [if_true]
      rw [if_neg (fun z => h.ne z.symm), h.at' j hj, h.other r (fun z => h.ne z.symm)]
      generalize gA (T.getD k []) j = a
      generalize gA (T.getD r []) j = b
      rw [Int.mul_sub, Int.sub_mul]
      have e1 : w k * (top * a) = top * w k * a := by ac_rfl
      have e2 : w k * (f * b) = f * w k * b := by ac_rfl
      rw [e1, e2]
      omega
    · rw [if_neg n1, if_neg n2, h.other i n1, Int.sub_self]
  intro i hi
  have k0 := key k h.kl
  rw [if_pos rfl] at k0
  have k0 := (Int.mul_eq_zero.mp k0).resolve_left h.tp
  by_cases z : i = k
  · rw [z]; exact k0
  · have := key i hi
    rw [if_neg z] at this
    by_cases z2 : i = r
    · rw [if_pos z2, k0, Int.mul_zero, Int.sub_zero] at this
      rw [z2]; exact this
    · rwa [if_neg z2] at this
/-- two rows change places -/
structure RowSwap (a b : Nat) (T T' : List (List Int)) : Prop where
  len : T'.length = T.length
  al : a < T.length
  bl : b < T.length
  ea : T'.getD a [] = T.getD b []
  eb : T'.getD b [] = T.getD a []
  other : ∀ i, i ≠ a → i ≠ b → T'.getD i [] = T.getD i []
theorem RowSwap.ker {n a b : Nat} {T T' : List (List Int)} (h : RowSwap a b T T') (x : Nat → Int) : KerT n T' x ↔ KerT n T x := by
  constructor
  · intro K i hi
    by_cases z : i = a
    · rw [z, ← h.eb]; exact K b (by rw [h.len]; exact h.bl)
    by_cases z2 : i = b
    · rw [z2, ← h.ea]; exact K a (by rw [h.len]; exact h.al)
    have := K i (by rw [h.len]; exact hi)
    rwa [h.other i z z2] at this
  · intro K i hi
    rw [h.len] at hi
    by_cases z : i = a
    · rw [z, h.ea]; exact K b h.bl
    by_cases z2 : i = b
    · rw [z2, h.eb]; exact K a h.al
    rw [h.other i z z2]
    exact K i hi
theorem RowSwap.ind {n a b : Nat} {T T' : List (List Int)} (h : RowSwap a b T T') (I : Indep n T) : Indep n T' := by
  intro w hw
  rw [h.len] at hw ⊢
  have key : ∀ i, i < T.length → (if i = a then w b else if i = b then w a else w i) = 0 := by
    refine I (fun i => if i = a then w b else if i = b then w a else w i) fun j hj => ?_
    by_cases ab : a = b
    · subst ab
      rw [← hw j hj]
      refine sumN_congr fun i hi => ?_
      by_cases z : i = a
      · subst z; simp only [if_true]; rw [h.ea]
      · rw [if_neg z, if_neg z, h.other i z z]
    have d := sumN_sub T.length (fun i => (if i = a then w b else if i = b then w a else w i) * gA (T.getD i []) j) (fun i => w i * gA (T'.getD i []) j)
    rw [hw j hj, Int.sub_zero] at d
    rw [d, sumN_two h.al h.bl ab fun i hi n1 n2 => ?_]
    · simp only [if_true]
      rw [if_neg (fun z => ab z.symm), h.ea, h.eb]
      omega
    · rw [if_neg n1, if_neg n2, h.other i n1 n2, Int.sub_self]
  intro i hi
  by_cases z : i = a
  · have := key b h.bl
    by_cases z2 : b = a
    · rw [if_pos z2] at this; rw [z, ← z2]; exact this
    · rw [if_neg z2, if_pos rfl] at this; rw [z]; exact this
  by_cases z2 : i = b
  · have := key a h.al
    rw [if_pos rfl] at this
    rw [z2]; exact this
  have := key i hi
  rwa [if_neg z, if_neg z2] at this
/-- where the elimination stands: spots below s are done, the first r rows lead at the places P -/
structure Ech (n : Nat) (T0 T : List (List Int)) (s r : Nat) (P : List Nat) : Prop where
  len : T.length = T0.length
  rl : ∀ t ∈ T, t.length = n
  pl : P.length = r
  rT : r ≤ T.length
  inc : P.Pairwise (· < ·)
  lt : ∀ p ∈ P, p < s
  piv : ∀ i, i < r → gA (T.getD i []) (P.getD i 0) ≠ 0 ∧ ∀ q, q < P.getD i 0 → gA (T.getD i []) q = 0
  rest : ∀ i, r ≤ i → i < T.length → ∀ q, q < s → gA (T.getD i []) q = 0
  ker : ∀ x, KerT n T x ↔ KerT n T0 x
  ind : Indep n T0 → Indep n T
theorem getD_memL {α : Type} {xs : List α} {k : Nat} {d : α} (h : k < xs.length) : xs.getD k d ∈ xs := by
  rw [List.getD_eq_getElem?_getD, List.getElem?_eq_getElem h]
  exact List.getElem_mem h
theorem getD_setL {α : Type} (xs : List α) (a i : Nat) (w d : α) : (xs.set a w).getD i d = if a = i ∧ i < xs.length then w else xs.getD i d := by
  rw [List.getD_eq_getElem?_getD, List.getElem?_set, List.getD_eq_getElem?_getD]
  by_cases e : a = i
  · subst e
    rw [if_pos rfl]
    by_cases h : a < xs.length
    · rw [if_pos h, if_pos ⟨rfl, h⟩]; rfl
    · rw [if_neg h, if_neg (fun z => h z.2), List.getElem?_eq_none (by omega)]
  · rw [if_neg e, if_neg (fun z => e z.1)]
theorem Ech.full {n r : Nat} {T0 T : List (List Int)} {P : List Nat} (h : Ech n T0 T n r P) (I : Indep n T0) : r = T0.length := by
  have rT := h.rT
  have le := h.len
  rcases Nat.lt_or_ge r T.length with l | g
  · have := h.ind I (fun k => if k = r then 1 else 0) (fun j hj => sumN_zero fun k hk => by
      by_cases e : k = r
      · subst e; rw [h.rest k (Nat.le_refl _) hk j hj, Int.mul_zero]
      · rw [if_neg e, Int.zero_mul]) r l
    rw [if_pos rfl] at this
    cases this
  · omega
theorem KerOk.indep {n B : Nat} {rows vs : List (List Int)} {F : List Nat} {v : Nat → List Int} (K : KerOk n B rows vs F v) : Indep n vs := by
  intro w hw k hk
  have fl : vs.length = F.length := by rw [K.eq, List.length_map]
  have at' : ∀ i (h : i < F.length), vs.getD i [] = v F[i] := fun i h => by
    rw [K.eq, List.getD_eq_getElem?_getD, List.getElem?_map, List.getElem?_eq_getElem h]
    rfl
  have hk2 : k < F.length := by omega
  have q := hw F[k] (K.lt _ (List.getElem_mem hk2))
  rw [sumN_one hk fun i hi ne => ?_, at' k hk2] at q
  · exact (Int.mul_eq_zero.mp q).resolve_right (by have := K.pos _ (List.getElem_mem hk2); omega)
  · have hi2 : i < F.length := by omega
    rw [at' i hi2, K.zer _ (List.getElem_mem hi2) _ (List.getElem_mem hk2) (fun z => ?_), Int.mul_zero]
    rcases Nat.lt_or_gt_of_ne ne with l | g
    · have := List.pairwise_iff_getElem.mp K.nd i k hi2 hk2 l; omega
    · have := List.pairwise_iff_getElem.mp K.nd k i hk2 hi2 g; omega
theorem Ech.start (n : Nat) {T0 : List (List Int)} (h : ∀ t ∈ T0, t.length = n) : Ech n T0 T0 0 0 [] :=
  ⟨rfl, h, rfl, Nat.zero_le _, .nil, by simp, fun i hi => absurd hi (by omega), fun _ _ _ q hq => absurd hq (by omega), fun _ => Iff.rfl, id⟩
theorem Ech.skip {n s r : Nat} {T0 T : List (List Int)} {P : List Nat} (h : Ech n T0 T s r P) (z : ∀ i, r ≤ i → i < T.length → gA (T.getD i []) s = 0) : Ech n T0 T (s + 1) r P :=
  ⟨h.len, h.rl, h.pl, h.rT, h.inc, fun p hp => by have := h.lt p hp; omega, h.piv, fun i hi hl q hq => by
    by_cases e : q = s
    · rw [e]; exact z i hi hl
    · exact h.rest i hi hl q (by omega), h.ker, h.ind⟩
/-- the lead stands at row r, the rows before i have 0 at the spot -/
structure EchM (n : Nat) (T0 T : List (List Int)) (s r : Nat) (P : List Nat) (i : Nat) : Prop where
  base : Ech n T0 T s r P
  sn : s < n
  rl2 : r < T.length
  lead : gA (T.getD r []) s ≠ 0
  done : ∀ k, r < k → k < i → k < T.length → gA (T.getD k []) s = 0
theorem Ech.swap {n s r k0 : Nat} {T0 T : List (List Int)} {P : List Nat} (h : Ech n T0 T s r P) (sn : s < n) (hk : r ≤ k0) (hl : k0 < T.length) (nz : gA (T.getD k0 []) s ≠ 0) : EchM n T0 ((T.set k0 (T.getD r [])).set r (T.getD k0 [])) s r P (r + 1) := by
  have rl : r < T.length := by omega
  have gd : ∀ i, ((T.set k0 (T.getD r [])).set r (T.getD k0 [])).getD i [] = if i = r then T.getD k0 [] else if i = k0 then T.getD r [] else T.getD i [] := fun i => by
    rw [getD_setL, List.length_set, getD_setL]
    by_cases e : i = r
    · rw [if_pos ⟨e.symm, by omega⟩, if_pos e]
    · rw [if_neg (fun z => e z.1.symm), if_neg e]
      by_cases e2 : i = k0
      · rw [if_pos ⟨e2.symm, by omega⟩, if_pos e2]
      · rw [if_neg (fun z => e2 z.1.symm), if_neg e2]
  have len : ((T.set k0 (T.getD r [])).set r (T.getD k0 [])).length = T.length := by rw [List.length_set, List.length_set]
  have S : RowSwap k0 r T ((T.set k0 (T.getD r [])).set r (T.getD k0 [])) := ⟨len, hl, rl, by
    rw [gd]
    by_cases e : k0 = r
    · rw [if_pos e, e]
    · rw [if_neg e, if_pos rfl], by rw [gd, if_pos rfl], fun i h1 h2 => by rw [gd, if_neg h2, if_neg h1]⟩
  refine ⟨⟨len.trans h.len, fun t ht => ?_, h.pl, by rw [len]; exact h.rT, h.inc, h.lt, fun i hi => ?_, fun i hi hl2 q hq => ?_, fun x => (S.ker x).trans (h.ker x), fun I => S.ind (h.ind I)⟩, sn, by rw [len]; exact rl, by rw [gd, if_pos rfl]; exact nz, fun k h1 h2 => absurd h1 (by omega)⟩
  · rcases List.mem_or_eq_of_mem_set ht with ht | ht
    · rcases List.mem_or_eq_of_mem_set ht with ht | ht
      · exact h.rl t ht
      · rw [ht]; exact h.rl _ (getD_memL rl)
    · rw [ht]; exact h.rl _ (getD_memL hl)
  · rw [gd, if_neg (by omega), if_neg (by omega)]
    exact h.piv i hi
  · rw [len] at hl2
    rw [gd]
    by_cases e : i = r
    · rw [if_pos e]; exact h.rest k0 hk hl q hq
    · rw [if_neg e]
      by_cases e2 : i = k0
      · rw [if_pos e2]; exact h.rest r (Nat.le_refl _) rl q hq
      · rw [if_neg e2]; exact h.rest i hi hl2 q hq
theorem EchM.op {n s r k : Nat} {T0 T : List (List Int)} {P : List Nat} {row : List Int} (h : EchM n T0 T s r P k) (hk : r < k) (hl : k < T.length) (rl : row.length = n) (hA : ∀ j, j < n → gA row j = gA (T.getD r []) s * gA (T.getD k []) j - gA (T.getD k []) s * gA (T.getD r []) j) : EchM n T0 (T.set k row) s r P (k + 1) := by
  have b := h.base
  have gd : ∀ i, (T.set k row).getD i [] = if i = k then row else T.getD i [] := fun i => by
    rw [getD_setL]
    by_cases e : i = k
    · rw [if_pos ⟨e.symm, by omega⟩, if_pos e]
    · rw [if_neg (fun z => e z.1.symm), if_neg e]
  have len : (T.set k row).length = T.length := List.length_set ..
  have O : RowOp n r k (gA (T.getD r []) s) (gA (T.getD k []) s) T (T.set k row) := ⟨len, h.rl2, hl, by omega, h.lead, fun j hj => by rw [gd, if_pos rfl]; exact hA j hj, fun i hi => by rw [gd, if_neg hi]⟩
  have sn := h.sn
  refine ⟨⟨len.trans b.len, fun t ht => ?_, b.pl, by rw [len]; exact b.rT, b.inc, b.lt, fun i hi => ?_, fun i hi hl2 q hq => ?_, fun x => (O.ker x).trans (b.ker x), fun I => O.ind (b.ind I)⟩, sn, by rw [len]; exact h.rl2, by rw [gd, if_neg (by omega)]; exact h.lead, fun i h1 h2 h3 => ?_⟩
  · rcases List.mem_or_eq_of_mem_set ht with ht | ht
    · exact b.rl t ht
    · rw [ht]; exact rl
  · rw [gd, if_neg (by omega)]
    exact b.piv i hi
  · rw [len] at hl2
    rw [gd]
    by_cases e : i = k
    · rw [if_pos e, hA q (by omega), b.rest k (by omega) hl q hq, b.rest r (Nat.le_refl _) h.rl2 q hq, Int.mul_zero, Int.mul_zero]
      rfl
    · rw [if_neg e]; exact b.rest i hi hl2 q hq
  · rw [len] at h3
    rw [gd]
    by_cases e : i = k
    · rw [if_pos e, hA s sn, Int.mul_comm, Int.sub_self]
    · rw [if_neg e]; exact h.done i h1 (by omega) h3
theorem EchM.fin {n s r i : Nat} {T0 T : List (List Int)} {P : List Nat} (h : EchM n T0 T s r P i) (hi : T.length ≤ i) : Ech n T0 T (s + 1) (r + 1) (P ++ [s]) := by
  have b := h.base
  have pl := b.pl
  refine ⟨b.len, b.rl, by rw [List.length_append, pl]; rfl, h.rl2, ?_, fun p hp => ?_, fun k hk => ?_, fun k hk hl q hq => ?_, b.ker, b.ind⟩
  · refine List.pairwise_append.mpr ⟨b.inc, List.pairwise_singleton _ _, fun x hx y hy => ?_⟩
    rw [List.mem_singleton.mp hy]
    exact b.lt x hx
  · rcases List.mem_append.mp hp with hp | hp
    · have := b.lt p hp; omega
    · rw [List.mem_singleton.mp hp]; omega
  · by_cases e : k = r
    · subst e
      rw [show (P ++ [s]).getD k 0 = s by rw [List.getD_eq_getElem?_getD, List.getElem?_append_right (by omega), pl, Nat.sub_self]; rfl]
      exact ⟨h.lead, fun q hq => b.rest k (Nat.le_refl _) h.rl2 q hq⟩
    · rw [show (P ++ [s]).getD k 0 = P.getD k 0 by rw [List.getD_eq_getElem?_getD, List.getElem?_append_left (by omega), List.getD_eq_getElem?_getD]]
      exact b.piv k (by omega)
  · by_cases e : q = s
    · rw [e]; exact h.done k (by omega) (by omega) hl
    · exact b.rest k (by omega) hl q (by omega)
theorem dot_shift {n c : Nat} (R : List Int) (x : Nat → Int) (a d : Int) (hc : c < n) : dotV n R (fun q => a * x q - if q = c then d else 0) = a * dotV n R x - gA R c * d := by
  unfold dotV
  rw [← sumN_mul]
  have e := sumN_one (n := n) (p := c) (f := fun j => gA R j * if j = c then d else 0) hc fun j _ ne => by rw [if_neg ne, Int.mul_zero]
  simp only [if_true] at e
  rw [← e, sumN_sub]
  refine sumN_congr fun j _ => ?_
  rw [Int.mul_sub]
  congr 1
  ac_rfl
theorem Ech.free {n r p : Nat} {T0 T : List (List Int)} {P : List Nat} (h : Ech n T0 T n r P) (hp : p < n) (np : p ∉ P) : ∃ x : Nat → Int, x p ≠ 0 ∧ (∀ q, p < q → x q = 0) ∧ KerT n T x := by
  have pl := h.pl
  have mem : ∀ k, k < r → P.getD k 0 ∈ P := fun k hk => getD_memL (by omega)
  have zero : ∀ k, r ≤ k → k < T.length → ∀ x, dotV n (T.getD k []) x = 0 := fun k h1 h2 x => sumN_zero fun j hj => by rw [h.rest k h1 h2 j hj, Int.zero_mul]
  have lt : ∀ i k, i < k → k < r → P.getD i 0 < P.getD k 0 := fun i k h1 h2 => by
    rw [List.getD_eq_getElem?_getD, List.getD_eq_getElem?_getD, List.getElem?_eq_getElem (by omega), List.getElem?_eq_getElem (by omega)]
    exact List.pairwise_iff_getElem.mp h.inc i k (by omega) (by omega) h1
  have step : ∀ m, m ≤ r → ∃ x : Nat → Int, x p ≠ 0 ∧ (∀ q, p < q → x q = 0) ∧ (∀ k, r - m ≤ k → k < T.length → dotV n (T.getD k []) x = 0) ∧ ∀ k, k < r - m → x (P.getD k 0) = 0 := by
    intro m
    induction m with
    | zero =>
      intro _
      refine ⟨fun q => if q = p then 1 else 0, by simp, fun q hq => if_neg (by omega), fun k hk hl => zero k hk hl _, fun k hk => if_neg (fun z => np (by rw [← z]; exact mem k hk))⟩
    | succ m ih =>
      intro hm
      obtain ⟨x, x1, x2, x3, x4⟩ := ih (by omega)
      obtain ⟨i, hi⟩ : ∃ i, i = r - (m + 1) := ⟨_, rfl⟩
      have ir : i < r := by omega
      have e1 : r - m = i + 1 := by omega
      rw [e1] at x3 x4
      rw [← hi]
      obtain ⟨a0, az⟩ := h.piv i ir
      have cm := mem i ir
      have ne : P.getD i 0 ≠ p := fun z => np (by rw [← z]; exact cm)
      have xc := x4 i (by omega)
      have cn := h.lt _ cm
      generalize hc : P.getD i 0 = c at *
      rcases Nat.lt_or_gt_of_ne ne with l | g
      · refine ⟨fun q => gA (T.getD i []) c * x q - if q = c then dotV n (T.getD i []) x else 0, ?_, fun q hq => ?_, fun k hk hl => ?_, fun k hk => ?_⟩
        · show gA (T.getD i []) c * x p - (if p = c then dotV n (T.getD i []) x else 0) ≠ 0
          rw [if_neg (by omega), Int.sub_zero]
          exact Int.mul_ne_zero a0 x1
        · show gA (T.getD i []) c * x q - (if q = c then dotV n (T.getD i []) x else 0) = 0
          rw [if_neg (by omega), x2 q hq, Int.mul_zero, Int.sub_zero]
        · rw [dot_shift _ _ _ _ cn]
          by_cases e : k = i
          · rw [e, Int.sub_self]
          · rw [x3 k (by omega) hl, Int.mul_zero]
            have : gA (T.getD k []) c = 0 := by
              rcases Nat.lt_or_ge k r with l2 | g2
              · exact (h.piv k l2).2 c (by rw [← hc]; exact lt i k (by omega) l2)
              · exact h.rest k g2 hl c cn
            rw [this, Int.zero_mul, Int.sub_zero]
        · show gA (T.getD i []) c * x (P.getD k 0) - (if P.getD k 0 = c then dotV n (T.getD i []) x else 0) = 0
          rw [x4 k (by omega), Int.mul_zero, if_neg (by have := lt k i hk ir; omega), Int.sub_zero]
      · refine ⟨x, x1, x2, fun k hk hl => ?_, fun k hk => x4 k (by omega)⟩
        by_cases e : k = i
        · rw [e]
          refine sumN_zero fun j hj => ?_
          rcases Nat.lt_or_ge j c with l2 | g2
          · rw [az j l2, Int.zero_mul]
          · rw [x2 j (by omega), Int.mul_zero]
        · exact x3 k (by omega) hl
  obtain ⟨x, x1, x2, x3, _⟩ := step r (Nat.le_refl _)
  exact ⟨x, x1, x2, fun k hk => x3 k (by omega) hk⟩
theorem lin_dot {n : Nat} (x : Nat → Int) : ∀ (y : List Int) (rows : List (List Int)), y.length = rows.length → (∀ r ∈ rows, dotV n r x = 0) → sumN n (fun j => linC y rows j * x j) = 0
  | [], [], _, _ => sumN_zero fun j _ => by simp [linC]
  | a :: y, r :: rows, hl, h => by
    have ih := lin_dot x y rows (by simpa using hl) fun r hr => h r (.tail _ hr)
    have hr : sumN n (fun j => gA r j * x j) = 0 := h r (.head _)
    have e := sumN_lin n a 1 (fun j => gA r j * x j) (fun j => linC y rows j * x j)
    rw [hr, ih, Int.mul_zero, Int.mul_zero] at e
    rw [← Int.add_zero 0, ← e]
    refine sumN_congr fun j _ => ?_
    have : linC (a :: y) (r :: rows) j = a * gA r j + linC y rows j := by unfold linC; simp
    rw [this, Int.add_mul, Int.mul_assoc, Int.one_mul]
theorem Ech.count {n r B : Nat} {T0 T vs : List (List Int)} {P F : List Nat} {v : Nat → List Int} (K : KerOk n B T0 vs F v) (h : Ech n T0 T n r P) : r + F.length = n := by
  have pl := h.pl
  have k0 : ∀ x : Nat → Int, (∀ t ∈ T0, dotV n t x = 0) ↔ KerT n T x := fun x => by
    rw [h.ker]
    constructor
    · exact fun q k hk => q _ (getD_memL hk)
    · intro q t ht
      obtain ⟨k, hk, rfl⟩ := List.getElem_of_mem ht
      have := q k hk
      rwa [List.getD_eq_getElem?_getD, List.getElem?_eq_getElem hk] at this
  have iff : ∀ p, p ∈ P ++ F ↔ p ∈ List.range n := fun p => by
    rw [List.mem_append, List.mem_range]
    constructor
    · rintro (h1 | h1)
      · exact h.lt p h1
      · exact K.lt p h1
    · intro hp
      by_cases h1 : p ∈ P
      · exact .inl h1
      by_cases h2 : p ∈ F
      · exact .inr h2
      obtain ⟨x, x1, x2, x3⟩ := h.free hp h1
      obtain ⟨y, y1, y2, y3⟩ := K.piv p hp h2
      have q := lin_dot (n := n) x y T0 y1 ((k0 x).mpr x3)
      rw [sumN_one hp fun j hj ne => ?_] at q
      · rcases Int.mul_eq_zero.mp q with z | z
        · exact absurd z y3
        · exact absurd z x1
      · rcases Nat.lt_or_gt_of_ne ne with l | g
        · rw [y2 j l, Int.zero_mul]
        · rw [x2 j g, Int.mul_zero]
  have dis : ∀ p, p ∈ P → p ∈ F → False := fun p h1 h2 => by
    obtain ⟨i, hi, rfl⟩ := List.getElem_of_mem h1
    have e : P.getD i 0 = P[i] := by rw [List.getD_eq_getElem?_getD, List.getElem?_eq_getElem hi]; rfl
    obtain ⟨a1, a2⟩ := h.piv i (by omega)
    rw [e] at a1 a2
    have kx := (k0 (gA (v P[i]))).mp fun t ht => K.ker _ h2 t ht
    have rT := h.rT
    have q := kx i (by omega)
    unfold dotV at q
    rw [sumN_one (h.lt _ h1) fun j hj ne => ?_] at q
    · rcases Int.mul_eq_zero.mp q with z | z
      · exact a1 z
      · have := K.pos _ h2; omega
    · rcases Nat.lt_or_gt_of_ne ne with l | g
      · rw [a2 j l, Int.zero_mul]
      · rw [K.up _ h2 j g, Int.mul_zero]
  have nd : (P ++ F).Nodup := List.nodup_append.mpr ⟨h.inc.imp (fun h => Nat.ne_of_lt h), K.nd.imp (fun h => Nat.ne_of_lt h), fun a ha b hb e => dis a ha (e ▸ hb)⟩
  have pm := (List.perm_ext_iff_of_nodup nd List.nodup_range).mpr iff
  have := pm.length_eq
  rw [List.length_append, List.length_range] at this
  omega
end OS

namespace OS
open PySem L2 OZ PySem.Spec PyProof.Rows
/-! ### law_k23: the rank -/
def bs23 : Nat → Nat
  | 0 => 7001
  | s + 1 => 2 * bs23 s + 1
theorem bs23_le : ∀ i : Fin 6, bs23 i.val + bs23 i.val ≤ 900000 := by decide +kernel
def FRank : FD := fun ds KR _ m => ∃ (cs : List (Bool × List Int)) (n : Nat), ds = [.lst (cs.map rowD), .int n] ∧ cs.length ≤ 6 ∧ n ≤ 6 ∧ (∀ c ∈ cs, c.2.length = n ∧ ∀ x ∈ c.2, x.natAbs < 2 ^ 7001) ∧ ∀ r : Nat, (∃ T P, Ech n (cs.map (·.2)) T n r P) → KR (.int r) m
theorem gA_lt {v : List Int} {b : Nat} (h : ∀ x ∈ v, x.natAbs < 2 ^ b) (j : Nat) : (gA v j).natAbs < 2 ^ b := by
  by_cases hj : j < v.length
  · exact h _ (gA_mem hj)
  · rw [gA_out (by omega)]; exact Nat.two_pow_pos b
theorem cross_lt {p q u w : Int} {b : Nat} (hp : p.natAbs < 2 ^ b) (hq : q.natAbs < 2 ^ b) (hu : u.natAbs < 2 ^ b) (hw : w.natAbs < 2 ^ b) : (p * q - u * w).natAbs < 2 ^ (2 * b + 1) := by
  have h1 := wide_lt hp hq
  have h2 := wide_lt hu hw
  rw [Nat.pow_succ, Nat.two_mul]
  omega
section
variable {B : Bd} {f : Addr} {fd : FuncData}
theorem rank_ok (Fn : Fun B.K "_law_rank" "_law_rank" l_rank f fd) (hb : Binds B.K fd ["_law_table", "_law_size"] []) (T : Bn B) : FnG pureM B 1 f 2 FRank := by
  refine fnG_ok Fn c_l_rank rfl hb ?_
  rintro X ds KR KE m ⟨cdv, A, outer, s', H, E, rfl⟩ cx hr hl ⟨cs, n, rfl, c6, n6, cb, k⟩
  have oh : OwnHint "_law_table" := trivial
  show StD _ _ _ _ [.v (.lst (cs.map rowD)), .v (.int n), .un, .un, .un, .un, .un, .un, .un, .un, .un, .un] _ _
  refine std_cons ?_
  with_reducible refine st1_setNewH oh cx (by fail "zi") ?_
  refine evn_lc (own := [("_law_row", 2)]) cx hr (.name (by fail "zi")) (.cons .nil (by fail "zs")) ?_
  refine iter_seq ?_
  fail "go"
  refine And.intro (by rw [List.length_map]; exact len_small (show _ ≤ 6 by omega)) ?_
  refine compd_mapB rowD (fun d => lsD d.2) (by fail "zi") rfl (by simp) ?_ ?_
  · rintro d hd P kk s0 H0 C0 cl0 fp0 cx' hr'
    obtain ⟨u, v⟩ := d
    cases u
    · show EvD _ _ _ _ [.v (.lst (cs.map rowD)), .v (.int n), .v (.lst (v.map Da.int)), .un, .un, .un, .un, .un, .un, .un, .un, .un] _ _
      fail "go"
      exact kk
    · show EvD _ _ _ _ [.v (.lst (cs.map rowD)), .v (.int n), .v (.tup (v.map Da.int)), .un, .un, .un, .un, .un, .un, .un, .un, .un] _ _
      fail "go"
      exact kk
  refine ⟨_, _, by fail "zs", ?_⟩
  rw [show (cs.map fun d => lsD d.2) = (cs.map (·.2)).map lsD by rw [List.map_map]; rfl]
  have t0l : ∀ t ∈ cs.map (·.2), t.length = n ∧ ∀ x ∈ t, x.natAbs < 2 ^ bs23 0 := fun t ht => by
    obtain ⟨c, hc, rfl⟩ := List.mem_map.mp ht
    exact cb c hc
  have t0n : (cs.map (·.2)).length ≤ 6 := by rw [List.length_map]; exact c6
  generalize cs.map (·.2) = T0 at *
  show StD _ _ _ _ [.m (.lst (T0.map lsD)), .v (.int n), .un, .un, .un, .un, .un, .un, .un, .un, .un, .un] _ _
  fail "go"
  refine for_invN cx (i := 4) (fun i sl' m' => ∃ (U : List (List Int)) (r : Nat) (P : List Nat) (s4 s5 s6 s7 s8 s9 s10 : Sl), Ech n T0 U i r P ∧ (∀ t ∈ U, ∀ x ∈ t, x.natAbs < 2 ^ bs23 i) ∧ m' = m ∧ sl' = [.m (.lst (U.map lsD)), .v (.int n), .un, .v (.int r), s4, s5, s6, s7, s8, s9, s10, .un]) (by fail "zi") ⟨T0, 0, [], _, _, _, _, _, _, _, Ech.start n fun t ht => (t0l t ht).1, fun t ht => (t0l t ht).2, rfl, rfl⟩ (by rintro n sl m ⟨_, _, _, _, _, _, _, _, _, _, _, _, _, rfl⟩; rfl) ?_ ?_
  · rintro i sl m2 hi hi2 ⟨U, r, P, s4, s5, s6, s7, s8, s9, s10, EC, ub, rfl, rfl⟩
    have ul := EC.len
    have rT := EC.rT
    show StD _ _ _ _ [.m (.lst (U.map lsD)), .v (.int n), .un, .v (.int r), .v (.int i), s5, s6, s7, s8, s9, s10, .un] _ _
    fail "go"
    with_reducible refine st1_setLc (own := [("_law_k", 6)]) cx hr (.name (by fail "zi")) (.cons .nil (by fail "zs")) ?_ (hN := by with_unfolding_all exact ⟨5, rfl⟩)
    refine iter_range2 cx T.range ?_
    fail "go"
    rw [List.length_map]
    fail "go"
    refine And.intro (by rw [intsD_len]; exact len_small (show _ ≤ 6 by omega)) ?_
    unfold intsD
    refine compd_filtB (fun k : Nat => Da.int ((r : Int) + (k : Int))) (fun k => decide (gA (U.getD (r + k) []) i ≠ 0)) (fun k : Nat => Da.int ((r : Int) + (k : Int))) (by fail "zi") rfl (by simp) ?_ ?_ ?_
    · rintro q hq P kk s0 H0 C0 cl0 fp0 cx' hr'
      have hq2 := List.mem_range.mp hq
      show EvT _ _ _ _ [.m (.lst (U.map lsD)), .v (.int n), .un, .v (.int r), .v (.int i), s5, .v (.int ((r : Int) + (q : Int))), s7, s8, s9, s10, .un] _ _
      fail "go"
      have e0 : (r : Int) + (q : Int) = ((r + q : Nat) : Int) := by omega
      refine ⟨_, _, rfl, by rw [e0]; exact atI_map (d := []) lsD (by omega), ?_⟩
      fail "go"
      refine ixd_row (by have := EC.rl _ (getD_mem (d := []) (show r + q < U.length by omega)); omega) ?_
      fail "go"
      rw [show decide (gA (U.getD (r + q) []) i ≠ 0) = !decide (gA (U.getD (r + q) []) i = 0) by simp] at kk
      exact kk
    · rintro q hq ht P kk s0 H0 C0 cl0 fp0 cx' hr'
      show EvD _ _ _ _ [.m (.lst (U.map lsD)), .v (.int n), .un, .v (.int r), .v (.int i), s5, .v (.int ((r : Int) + (q : Int))), s7, s8, s9, s10, .un] _ _
      fail "go"
      exact kk
    refine ⟨_, _, by fail "zs", ?_⟩
    have bb : bs23 i ≤ bs23 (i + 1) := by show _ ≤ 2 * bs23 i + 1; omega
    have in6 : i < n := by omega
    generalize hfl : (List.range ((U.length : Int) - (r : Int)).toNat).filter (fun k => decide (gA (U.getD (r + k) []) i ≠ 0)) = fl
    show StD _ _ _ _ [.m (.lst (U.map lsD)), .v (.int n), .un, .v (.int r), .v (.int i), .v (.lst (fl.map fun k : Nat => Da.int ((r : Int) + (k : Int)))), _, s7, s8, s9, s10, .un] _ _
    cases fl with
    | nil =>
      fail "go"
      refine zeF rfl ?_
      fail "go"
      refine ⟨U, r, P, _, _, _, _, _, _, _, EC.skip fun k hk hl => ?_, fun t ht x hx => Nat.lt_of_lt_of_le (ub t ht x hx) (Nat.pow_le_pow_right (by decide) bb), rfl, rfl⟩
      have := List.filter_eq_nil_iff.mp hfl (k - r) (List.mem_range.mpr (by omega))
      rw [show r + (k - r) = k by omega] at this
      simpa using this
    | cons a fl =>
      have am : a ∈ (List.range ((U.length : Int) - (r : Int)).toNat).filter (fun k => decide (gA (U.getD (r + k) []) i ≠ 0)) := by rw [hfl]; exact .head _
      obtain ⟨am, nz⟩ := List.mem_filter.mp am
      have am := List.mem_range.mp am
      have nz := of_decide_eq_true nz
      have M := EC.swap in6 (Nat.le_add_right r a) (by omega) nz
      fail "go"
      refine zeT rfl ?_
      fail "go"
      have e0 : (r : Int) + (a : Int) = ((r + a : Nat) : Int) := by omega
      refine ixd_lst (d := .int ((r : Int) + (a : Int))) (atI_pos (by decide) rfl) ?_
      refine ⟨_, _, rfl, by rw [e0]; exact atI_map (d := []) lsD (by omega), ?_⟩
      fail "go"
      refine ⟨_, _, rfl, atI_map (d := []) lsD (show r < U.length by omega), ?_⟩
      fail "go"
      refine ixd_lst (d := .int ((r : Int) + (a : Int))) (atI_pos (by decide) rfl) ?_
      refine ⟨_, r + a, rfl, ixN_at (by omega) (by rw [List.length_map]; omega) |>.trans (by rw [e0, Int.toNat_natCast]), ?_⟩
      refine ⟨_, _, by fail "zs", ?_⟩
      rw [show (U.map lsD).set (r + a) (lsD (U.getD r [])) = (U.set (r + a) (U.getD r [])).map lsD from List.map_set.symm]
      fail "go"
      refine ⟨_, r, rfl, ixN_at (by omega) (by rw [List.length_map, List.length_set]; omega), ?_⟩
      refine ⟨_, _, by fail "zs", ?_⟩
      rw [show ((U.set (r + a) (U.getD r [])).map lsD).set r (lsD (U.getD (r + a) [])) = ((U.set (r + a) (U.getD r [])).set r (U.getD (r + a) [])).map lsD from List.map_set.symm]
      have ml : U.getD (r + a) [] ∈ U := getD_mem (by omega)
      have ub2 : ∀ t ∈ (U.set (r + a) (U.getD r [])).set r (U.getD (r + a) []), ∀ x ∈ t, x.natAbs < 2 ^ bs23 i := fun t ht => by
        rcases List.mem_or_eq_of_mem_set ht with ht | ht
        · rcases List.mem_or_eq_of_mem_set ht with ht | ht
          · exact ub t ht
          · rw [ht]; exact ub _ (getD_mem (by omega))
        · rw [ht]; exact ub _ ml
      have gr : ((U.set (r + a) (U.getD r [])).set r (U.getD (r + a) [])).getD r [] = U.getD (r + a) [] := by rw [getD_setL, if_pos ⟨rfl, by rw [List.length_set]; omega⟩]
      have ul2 : ((U.set (r + a) (U.getD r [])).set r (U.getD (r + a) [])).length = U.length := by rw [List.length_set, List.length_set]
      have ldn := EC.rl _ ml
      have ldb := ub _ ml
      generalize (U.set (r + a) (U.getD r [])).set r (U.getD (r + a) []) = V at *
      generalize U.getD (r + a) [] = ld at *
      show StD _ _ _ _ [.m (.lst (V.map lsD)), .v (.int n), .un, .v (.int r), .v (.int i), .v (.lst ((a :: fl).map fun k : Nat => Da.int ((r : Int) + (k : Int)))), _, .v (lsD ld), s8, s9, s10, .un] _ _
      fail "go"
      rw [List.length_map]
      fail "go"
      have b9 : bs23 i + bs23 i ≤ 900000 := bs23_le ⟨i, by omega⟩
      refine for_invL (fun q : Nat => Da.int ((r : Int) + 1 + (q : Int))) (xs := List.range ((V.length : Int) - ((r : Int) + 1)).toNat) cx (i := 6) (fun j sl' m' => ∃ (V : List (List Int)) (s6 s8 s9 s10 : Sl), EchM n T0 V i r P (r + 1 + j) ∧ V.length = U.length ∧ V.getD r [] = ld ∧ (∀ k, k < V.length → (k < r + 1 + j → ∀ x ∈ V.getD k [], x.natAbs < 2 ^ bs23 (i + 1)) ∧ (r + 1 + j ≤ k → ∀ x ∈ V.getD k [], x.natAbs < 2 ^ bs23 i)) ∧ m' = m2 ∧ sl' = [.m (.lst (V.map lsD)), .v (.int n), .un, .v (.int r), .v (.int i), .v (.lst ((a :: fl).map fun k : Nat => Da.int ((r : Int) + (k : Int)))), s6, .v (lsD ld), s8, s9, s10, .un]) (by fail "zi") ⟨V, _, _, _, _, M, ul2, gr, fun k hk => ⟨fun _ x hx => Nat.lt_of_lt_of_le (ub2 _ (getD_mem hk) x hx) (Nat.pow_le_pow_right (by decide) bb), fun _ x hx => ub2 _ (getD_mem hk) x hx⟩, rfl, rfl⟩ (by rintro n sl m ⟨_, _, _, _, _, _, _, _, _, _, rfl⟩; rfl) ?_ ?_
      · rintro j q sl m3 hq hj tk ⟨W, s6, s8, s9, s10, N, wl, wr, wb, rfl, rfl⟩
        rw [List.length_range] at hj
        have hqj : q = j := by
          rw [List.getElem?_range hj] at hq
          exact (Option.some.inj hq).symm
        subst hqj
        have kl : r + 1 + q < W.length := by omega
        have rw1 := N.base.rl _ (getD_mem (d := []) kl)
        have wbk := (wb _ kl).2 (Nat.le_refl _)
        have e1 : (r : Int) + 1 + (q : Int) = ((r + 1 + q : Nat) : Int) := by omega
        rw [e1]
        show StD _ _ _ _ [.m (.lst (W.map lsD)), .v (.int n), .un, .v (.int r), .v (.int i), .v (.lst ((a :: fl).map fun k : Nat => Da.int ((r : Int) + (k : Int)))), .v (.int ((r + 1 + q : Nat) : Int)), .v (lsD ld), s8, s9, s10, .un] _ _
        fail "go"
        refine ixd_row (by omega) ?_
        refine ⟨_, _, by fail "zs", ?_⟩
        fail "go"
        refine ⟨_, _, rfl, atI_map (d := []) lsD kl, ?_⟩
        have NO := N.op (row := (List.range n).map fun c => gA ld i * gA (W.getD (r + 1 + q) []) c - gA (W.getD (r + 1 + q) []) i * gA ld c) (by omega) kl (by simp) (fun c hc => by
          rw [wr]
          unfold gA
          rw [List.getD_eq_getElem?_getD (l := List.map _ _), List.getElem?_map, List.getElem?_range hc]
          rfl)
        have go' : ∀ k, (W.set (r + 1 + q) ((List.range n).map fun c => gA ld i * gA (W.getD (r + 1 + q) []) c - gA (W.getD (r + 1 + q) []) i * gA ld c)).getD k [] = if r + 1 + q = k ∧ k < W.length then (List.range n).map fun c => gA ld i * gA (W.getD (r + 1 + q) []) c - gA (W.getD (r + 1 + q) []) i * gA ld c else W.getD k [] := fun k => getD_setL _ _ _ _ _
        generalize ho : W.getD (r + 1 + q) [] = o at *
        fail "go"
        refine ixd_row (by omega) ?_
        refine ⟨_, _, by fail "zs", ?_⟩
        fail "go"
        refine evd_lc (own := [("_law_at", 11)]) cx hr (.name (by fail "zi")) (.cons .nil (by fail "zs")) ?_
        refine iter_range cx T.range ?_
        fail "go"
        refine And.intro (by rw [intsD_len]; exact len_small (show _ ≤ 6 by omega)) ?_
        refine compd_mapN (fun c => .int (gA ld i * gA o c - gA o i * gA ld c)) (by fail "zi") rfl (by simp) ?_ ?_
        · rintro c hc hc2 P kk s0 H0 C0 cl0 fp0 cx' hr'
          have hc3 : c < n := by omega
          show EvD _ _ _ _ [.m (.lst (W.map lsD)), .v (.int n), .un, .v (.int r), .v (.int i), .v (.lst ((a :: fl).map fun k : Nat => Da.int ((r : Int) + (k : Int)))), .v (.int ((r + 1 + q : Nat) : Int)), .v (lsD ld), .v (.int (gA ld i)), .v (lsD o), .v (.int (gA o i)), .v (.int c)] _ _
          fail "go"
          refine ixd_row (by omega) ?_
          refine opd_mulW (big_mul (gA_lt ldb i) (gA_lt wbk c) b9) ?_
          fail "go"
          refine ixd_row (by omega) ?_
          refine opd_mulW (big_mul (gA_lt wbk i) (gA_lt ldb c) b9) ?_
          fail "go"
          exact kk
        rw [Int.toNat_natCast, show ((List.range n).map fun c => Da.int (gA ld i * gA o c - gA o i * gA ld c)) = ((List.range n).map fun c => gA ld i * gA o c - gA o i * gA ld c).map Da.int by rw [List.map_map]; rfl]
        have xb : ∀ x ∈ (List.range n).map fun c => gA ld i * gA o c - gA o i * gA ld c, x.natAbs < 2 ^ bs23 (i + 1) := fun x hx => by
          obtain ⟨c, _, rfl⟩ := List.mem_map.mp hx
          exact cross_lt (gA_lt ldb i) (gA_lt wbk c) (gA_lt wbk i) (gA_lt ldb c)
        generalize ((List.range n).map fun c => gA ld i * gA o c - gA o i * gA ld c) = nw at *
        fail "go"
        refine ⟨_, r + 1 + q, rfl, ixN_at (by omega) (by rw [List.length_map]; omega) |>.trans (by rw [Int.toNat_natCast]), ?_⟩
        refine ⟨_, _, by fail "zs", ?_⟩
        rw [show (W.map lsD).set (r + 1 + q) (.lst (nw.map Da.int)) = (W.set (r + 1 + q) nw).map lsD from List.map_set.symm]
        fail "go"
        refine ⟨W.set (r + 1 + q) nw, _, _, _, _, NO, by rw [List.length_set]; exact wl, by rw [go', if_neg (by omega)]; exact wr, fun k hk => ?_, rfl, rfl⟩
        rw [List.length_set] at hk
        rw [go']
        by_cases e : r + 1 + q = k
        · rw [if_pos ⟨e, hk⟩]
          exact ⟨fun _ => xb, fun h => absurd h (by omega)⟩
        · rw [if_neg (fun z => e z.1)]
          exact ⟨fun h => (wb k hk).1 (by omega), fun h => (wb k hk).2 (by omega)⟩
      rintro sl m3 ⟨W, s6, s8, s9, s10, N, wl, wr, wb, rfl, rfl⟩
      rw [List.length_range] at N wb
      fail "go"
      with_reducible refine st1_augI cx (by fail "zn") ?_
      fail "go"
      refine ⟨W, r + 1, P ++ [i], _, _, _, _, _, _, _, N.fin (by omega), fun t ht x hx => ?_, rfl, rfl⟩
      obtain ⟨k, hk, rfl⟩ := List.getElem_of_mem ht
      have := (wb k hk).1 (by omega) x
      rw [List.getD_eq_getElem?_getD, List.getElem?_eq_getElem hk] at this
      exact this hx
  rintro sl m2 ⟨U, r, P, s4, s5, s6, s7, s8, s9, s10, EC, ub, rfl, rfl⟩
  fail "go"
  exact k r ⟨U, P, by rw [Int.toNat_natCast] at EC; exact EC⟩
end
end OS

namespace OS
open PySem L2 OZ PySem.Spec PyProof.Rows
/-! ### law_k23: what is built -/
def FChg (st : Addr) : FD := fun ds KR _ m => ∃ v : List Int, ds = [.ref st, lsD v] ∧ m ≤ 900000000 ∧ v.length ≤ 6 ∧ (∀ x ∈ v, x.natAbs ≤ 1000) ∧ ∀ w m', w.length ≠ v.length → w.length ≤ 6 → (∀ x ∈ w, x.natAbs ≤ 1000) → m' ≤ m + 2 → KR (lsD w) m'
section
variable {B : Bd} {f st : Addr} {fd : FuncData}
theorem chg_ok (Fn : Fun B.K "_law_change_length" "_law_change_length" l_change_length f fd) (hb : Binds B.K fd ["_law_state", "_law_row"] []) (T : Bn B) (ET : CallG (drawM st) B 1 "_law_draw" 2 (FDraw st)) : FnG (drawM st) B 2 f 2 (FChg st) := by
  refine fnG_ok Fn c_l_change_length rfl hb ?_
  rintro X ds KR KE m ⟨cdv, A, outer, s', H, E, rfl⟩ cx hr hl ⟨v, rfl, hm, v6, vb, k⟩
  show StD _ _ _ _ [.v (.ref st), .v (lsD v)] _ _
  fail "go"
  refine opd_eq (L2.Room.units hr) (lsD_pl v) (by fail "zpl") (Nat.le_trans (lsD_dpt v) (by decide)) (by fail "zdp") ?_
  refine ⟨_, rfl, ?_⟩
  cases v with
  | nil =>
    refine zeT rfl ?_
    extract_lets a a0 a1
    refine opd_cat (by show 0 + 1 ≤ _; decide) ?_
    exact k [a] _ (by simp) (by simp) (by simp; omega) (by omega)
  | cons x v =>
    refine zeF rfl ?_
    have v6 : v.length + 1 ≤ 6 := v6
    have cut : ∀ m2, m2 ≤ m + 2 → KR (.lst (cutD ((x :: v).map Da.int) (some 1) none)) m2 := fun m2 h2 => by
      rw [cutD_from (by decide)]
      exact k v m2 (by simp) (by omega) (fun y hy => vb y (.tail _ hy)) h2
    fail "go"
    refine zif (fun e => ?_) fun e => ?_
    · extract_lets a a0 a1
      refine zif (fun e2 => ?_) fun e2 => ?_
      · extract_lets b b0 b1
        have e3 : v.length + 1 < 6 := by
          have : (((x :: v).map Da.int).length : Int) < 6 := e
          simp at this
          omega
        refine opd_cat (by show ((x :: v).map Da.int).length + 1 ≤ _; exact len_small (show _ ≤ 7 by simp; omega)) ?_
        have kk := k ((x :: v) ++ [b]) (m + 1 + 1) (by simp) (by simp; omega) (fun y hy => (List.mem_append.mp hy).elim (vb y) (fun h => by rw [List.mem_singleton.mp h]; omega)) (by omega)
        have kk : KR (.lst (((x :: v) ++ [b]).map Da.int)) (m + 1 + 1) := kk
        rw [List.map_append] at kk
        exact kk
      · fail "go"
        refine sld_lst ?_
        exact cut _ (by omega)
    · fail "go"
      refine sld_lst ?_
      exact cut _ (by omega)
end
end OS

namespace OS
open PySem L2 OZ PySem.Spec PyProof.Rows
/-! ### law_k23: what is asked -/
theorem Rws.ker {n : Nat} {cs : List (Bool × List Int)} (h : Rws n cs) : KerOk n (2 ^ 7000) (cs.map (·.2)) (kernI (cs.map (·.2)) n) (freeF (solveI (cs.map (·.2))) n) (kitem (solveI (cs.map (·.2))) n) := by
  have K := kernI_ok (b := 16384) (by decide) h.inv
  have c6 := h.c6
  refine ⟨K.eq, K.nd, K.lt, K.len, K.pos, K.zer, K.up, K.ker, K.all, K.piv, K.cnt, fun f hf j => Nat.le_trans (K.bd f hf j) ?_⟩
  rw [List.length_map]
  have h1 : bdI 16384 cs.length ^ (cs.length + 1) ≤ (2 ^ 1000) ^ (cs.length + 1) := Nat.pow_le_pow_left (Nat.le_of_lt (bdI_6 c6)) _
  rw [← Nat.pow_mul] at h1
  exact Nat.le_trans h1 (Nat.pow_le_pow_right (by decide) (by omega))
def FRight : FD := fun ds KR _ m => ∃ (vs : List (List Int)) (n : Nat), ds = [.lst (vs.map lsD), .int n, .lst ((kernI vs n).map fun v => rowD (true, v))] ∧ Tab n 1000 vs ∧ vs.length ≤ 6 ∧ n ≤ 6 ∧ KR (.bl true) m
section
variable {B : Bd} {f : Addr} {fd : FuncData}
theorem right_ok (Fn : Fun B.K "_law_right" "_law_right" l_right f fd) (hb : Binds B.K fd ["_law_table", "_law_size", "_law_actual"] []) (T : Bn B) (EI : CallG pureM B 1 "_law_is_integer" 1 FIsInt) (EK : CallG pureM B 1 "_law_rank" 2 FRank) (kt : KitG B.K (.type "tuple") (.type "tuple") true) (kl : KitG B.K (.type "list") (.type "list") true) : FnG pureM B 2 f 3 FRight := by
  refine fnG_ok Fn c_l_right rfl hb ?_
  rintro X ds KR KE m ⟨cdv, A, outer, s, H, E, rfl⟩ cx hr hl ⟨vs, n, rfl, tab, v6, n6, k⟩
  have RW : Rws n (lsL vs) := tab.rws v6 (by omega) (by omega) _ (lsL_snd vs)
  have K := RW.ker
  rw [lsL_snd] at K
  have klen := K.eq
  have kin := KerOk.indep K
  generalize hks : kernI vs n = ks at *
  show StD _ _ _ _ [.v (.lst (vs.map lsD)), .v (.int n), .v (.lst (ks.map fun v => rowD (true, v))), .un, .un, .un, .un] _ _
  fail "go"
  refine ⟨lsL vs, n, by rw [show (lsL vs).map rowD = vs.map lsD by rw [List.map_map]; rfl], by simpa using v6, n6, fun c hc => ⟨RW.len c hc, fun x hx => Nat.lt_of_le_of_lt (RW.sm c hc x hx) (Nat.lt_of_lt_of_le (show 16384 < 2 ^ 15 by decide) (Nat.pow_le_pow_right (by decide) (by decide)))⟩, fun r hr1 => ?_⟩
  obtain ⟨W, P, EC⟩ := hr1
  rw [lsL_snd] at EC
  have cnt := EC.count K
  fail "go"
  have kl2 : ks.length + r = n := by rw [klen, List.length_map]; omega
  have vf : ∀ v ∈ ks, v.length = n ∧ (∀ x ∈ v, x.natAbs < 2 ^ 7001) ∧ ∀ c ∈ vs, sumN n (fun k => gA c k * gA v k) = 0 := fun v hv => by
    rw [klen] at hv
    obtain ⟨f, hf, rfl⟩ := List.mem_map.mp hv
    exact ⟨K.len f hf, bd_gA fun j => Nat.lt_of_le_of_lt (K.bd f hf j) (Nat.pow_lt_pow_right (by decide) (by decide)), fun c hc => K.ker f hf c hc⟩
  rw [List.length_map, show decide ((ks.length : Int) = (n : Int) - (r : Int)) = true from decide_eq_true (by omega)]
  fail "go"
  refine for_invL (fun v => rowD (true, v)) cx (i := 3) (fun i sl' m' => ∃ s3 s4 s5 : Sl, m' = m ∧ sl' = [.v (.lst (vs.map lsD)), .v (.int n), .v (.lst (ks.map fun v => rowD (true, v))), s3, s4, s5, .un]) (by fail "zi") ⟨_, _, _, rfl, rfl⟩ (by rintro n sl m ⟨_, _, _, _, rfl⟩; rfl) ?_ ?_
  · rintro i v sl m2 hv hi tk ⟨s3, s4, s5, rfl, rfl⟩
    obtain ⟨v1, v2, v3⟩ := vf v (List.mem_of_getElem? hv)
    show StD _ _ _ _ [.v (.lst (vs.map lsD)), .v (.int n), .v (.lst (ks.map fun v => rowD (true, v))), .v (.tup (v.map Da.int)), s4, s5, .un] _ _
    fail "go"
    rw [List.length_map, show decide ((v.length : Int) = (n : Int)) = true from decide_eq_true (by omega)]
    fail "go"
    refine for_invL Da.int cx (i := 4) (fun i sl' m' => ∃ s4 : Sl, m' = m2 ∧ sl' = [.v (.lst (vs.map lsD)), .v (.int n), .v (.lst (ks.map fun v => rowD (true, v))), .v (.tup (v.map Da.int)), s4, s5, .un]) (by fail "zi") ⟨_, rfl, rfl⟩ (by rintro n sl m ⟨_, _, rfl⟩; rfl) ?_ ?_
    · rintro i x sl m3 hx hi tk ⟨s4, rfl, rfl⟩
      show StD _ _ _ _ [.v (.lst (vs.map lsD)), .v (.int n), .v (.lst (ks.map fun v => rowD (true, v))), .v (.tup (v.map Da.int)), .v (.int x), s5, .un] _ _
      fail "go"
      refine ⟨x, rfl, ?_⟩
      fail "go"
      exact ⟨_, rfl, rfl⟩
    rintro sl m3 ⟨s4, rfl, rfl⟩
    fail "go"
    refine for_invL lsD cx (i := 5) (fun i sl' m' => ∃ s5 : Sl, m' = m3 ∧ sl' = [.v (.lst (vs.map lsD)), .v (.int n), .v (.lst (ks.map fun v => rowD (true, v))), .v (.tup (v.map Da.int)), s4, s5, .un]) (by fail "zi") ⟨_, rfl, rfl⟩ (by rintro n sl m ⟨_, _, rfl⟩; rfl) ?_ ?_
    · rintro i c sl m4 hc hi tk ⟨s5, rfl, rfl⟩
      have cm := List.mem_of_getElem? hc
      have c1 := tab.len c cm
      show StD _ _ _ _ [.v (.lst (vs.map lsD)), .v (.int n), .v (.lst (ks.map fun v => rowD (true, v))), .v (.tup (v.map Da.int)), s4, .v (lsD c), .un] _ _
      fail "go"
      refine evd_lc (own := [("_law_k", 6)]) cx hr (.name (by fail "zi")) (.cons .nil (by fail "zs")) ?_
      refine iter_range cx T.range ?_
      fail "go"
      refine And.intro (by rw [intsD_len]; exact len_small (show _ ≤ 6 by omega)) ?_
      refine compd_mapN (fun k => .int (gA c k * gA v k)) (by fail "zi") rfl (by simp) ?_ ?_
      · rintro q hq hq2 P kk s0 H0 C0 cl0 fp0 cx' hr'
        have hq3 : q < n := by omega
        show EvD _ _ _ _ [.v (.lst (vs.map lsD)), .v (.int n), .v (.lst (ks.map fun v => rowD (true, v))), .v (rowD (true, v)), s4, .v (lsD c), .v (.int q)] _ _
        fail "go"
        refine ixd_row (by omega) ?_
        fail "go"
        refine ixd_row (by omega) ?_
        refine opd_mulW (big_mul (p := 7001) (q := 7001) (Nat.lt_of_le_of_lt (tab.sm c cm _ (gA_mem (by omega))) (Nat.lt_of_lt_of_le (show 1000 < 2 ^ 15 by decide) (Nat.pow_le_pow_right (by decide) (by decide)))) (v2 _ (gA_mem (by omega)))) ?_
        exact kk
      fail "go"
      rw [Int.toNat_natCast, show ((List.range n).map fun k => Da.int (gA c k * gA v k)) = ((List.range n).map fun k => gA c k * gA v k).map Da.int by rw [List.map_map]; rfl]
      refine cd_sum ?_
      rw [sum_range, v3 c cm]
      fail "go"
      exact ⟨_, rfl, rfl⟩
    rintro sl m4 ⟨s5, rfl, rfl⟩
    fail "go"
    exact ⟨_, _, _, rfl, rfl⟩
  rintro sl m2 ⟨s3, s4, s5, rfl, rfl⟩
  fail "go"
  refine ⟨ks.map fun v => (true, v), n, by rw [show (ks.map fun v => ((true, v) : Bool × List Int)).map rowD = ks.map fun v => rowD (true, v) by rw [List.map_map]; rfl], by rw [List.length_map]; omega, n6, fun d hd => ?_, fun r2 hr2 => ?_⟩
  · obtain ⟨v, hv, rfl⟩ := List.mem_map.mp hd
    exact ⟨(vf v hv).1, (vf v hv).2.1⟩
  obtain ⟨W2, P2, EC2⟩ := hr2
  rw [show (ks.map fun v => ((true, v) : Bool × List Int)).map (·.2) = ks by rw [List.map_map]; exact List.map_id _] at EC2
  have := EC2.full kin
  fail "go"
  rw [List.length_map, show decide ((r2 : Int) = (ks.length : Int)) = true from decide_eq_true (by omega)]
  exact k
end
end OS

namespace OS
open PySem L2 OZ PySem.Spec PyProof.Rows
/-! ### law_k23: the rows -/
def FRowsD (st : Addr) : FD := fun ds KR _ m => ∃ (c h : Nat), ds = [.ref st, .int c, .int h] ∧ m ≤ 900000000 ∧ c ≤ 6 ∧ h ≤ 6 ∧ ∀ vs m', vs.length = c → Tab h 1000 vs → m' ≤ m + 80 → KR (.lst (vs.map lsD)) m'
section
variable {B : Bd} {f st : Addr} {fd : FuncData}
theorem rowsd_ok (Fn : Fun B.K "_law_rows" "_law_rows" l_rows f fd) (hb : Binds B.K fd ["_law_state", "_law_count", "_law_size"] []) (T : Bn B) (ET : CallG (drawM st) B 1 "_law_draw" 2 (FDraw st)) : FnGN (drawM st) B 2 f 3 (FRowsD st) := by
  refine fnGN_ok Fn c_l_rows rfl hb ?_
  rintro X ds KR KE m ⟨cdv, A, outer, s', H, E, rfl⟩ cx hr hl ⟨c, h, rfl, hm, c6, h6, k⟩
  have oh : OwnHint "_law_table" := trivial
  show StD _ _ _ _ [.v (.ref st), .v (.int c), .v (.int h), .un, .un, .un, .un, .un, .un, .un, .un, .un] _ _
  extract_lets p p0 p1
  refine ixd_lstM (Pr := fun d => ∃ s : Nat, d = .int s ∧ 1 ≤ s ∧ s ≤ 1000) p0 p1 (by
    intro d hd
    simp only [List.mem_cons, List.not_mem_nil, or_false] at hd
    rcases hd with rfl | rfl | rfl | rfl
    · exact ⟨1, rfl, by decide, by decide⟩
    · exact ⟨2, rfl, by decide, by decide⟩
    · exact ⟨20, rfl, by decide, by decide⟩
    · exact ⟨1000, rfl, by decide, by decide⟩) ?_
  rintro d ⟨s, rfl, s1, s30⟩
  refine ⟨_, _, by fail "zs", ?_⟩
  show StD _ _ _ _ [.v (.ref st), .v (.int c), .v (.int h), .v (.int s), .un, .un, .un, .un, .un, .un, .un, .un] _ _
  fail "go"
  refine for_invN cx (i := 5) (fun i sl' m' => ∃ (vs : List (List Int)) (s5 s6 s7 s9 s10 : Sl), vs.length = i ∧ i ≤ c ∧ Tab h s vs ∧ m' ≤ m + 1 + 10 * i ∧ sl' = [.v (.ref st), .v (.int c), .v (.int h), .v (.int s), .m (.lst (vs.map lsD)), s5, s6, s7, .un, s9, s10, .un]) (by fail "zi") ⟨[], _, _, _, _, _, rfl, by omega, ⟨by simp, by simp⟩, by omega, rfl⟩ (by rintro n sl m ⟨_, _, _, _, _, _, _, _, _, _, rfl⟩; rfl) ?_ ?_
  · rintro i sl m2 hi hi2 ⟨vs, s5, s6, s7, s9, s10, vl, _, tab, hm2, rfl⟩
    show StD _ _ _ _ [.v (.ref st), .v (.int c), .v (.int h), .v (.int s), .m (.lst (vs.map lsD)), .v (.int i), s6, s7, .un, s9, s10, .un] _ _
    extract_lets w w0 w1
    with_reducible refine st1_setLc (own := [("_law_at", 8)]) cx hr (.name (by fail "zi")) (.cons .nil (by fail "zs")) ?_ (hN := by with_unfolding_all exact ⟨7, rfl⟩)
    refine iter_range cx T.range ?_
    fail "go"
    refine And.intro (by rw [intsD_len]; exact len_small (show _ ≤ 6 by omega)) ?_
    refine compd_allN (fun q acc m3 => ∃ v : List Int, acc = v.map Da.int ∧ v.length = q ∧ (∀ x ∈ v, x.natAbs ≤ s) ∧ m3 ≤ m + 2 + 10 * i + q) (by fail "zi") rfl (by simp) ⟨[], rfl, rfl, by simp, by omega⟩ ?_ ?_
    · rintro q acc m3 hq hq2 ⟨v, rfl, vl, vb, hm3⟩ s0 H0 C0 cl0 fp0 cx' hr'
      show EvD _ _ _ _ [.v (.ref st), .v (.int c), .v (.int h), .v (.int s), .m (.lst (vs.map lsD)), .v (.int i), .v (.bl (decide (w = 1))), s7, .v (.int q), s9, s10, .un] _ _
      extract_lets a a0 a1
      exact ⟨v ++ [a - s], by simp, by simp [vl], fun x hx => (List.mem_append.mp hx).elim (vb x) (fun h => by rw [List.mem_singleton.mp h]; omega), by omega⟩
    rintro rr m3 ⟨v, rfl, rl, rb, hm3⟩
    rw [Int.toNat_natCast] at rl hm3
    refine ⟨_, _, by fail "zs", ?_⟩
    refine std_cut (fun sl' m' => ∃ (v : List Int) (s9 s10 : Sl), v.length = h ∧ (∀ x ∈ v, x.natAbs ≤ s) ∧ m' ≤ m + 4 + 10 * i + h ∧ sl' = [.v (.ref st), .v (.int c), .v (.int h), .v (.int s), .m (.lst (vs.map lsD)), .v (.int i), .v (.bl (decide (w = 1))), .v (lsD v), .un, s9, s10, .un]) ?_ ?_
    · show St1 _ _ _ _ [.v (.ref st), .v (.int c), .v (.int h), .v (.int s), .m (.lst (vs.map lsD)), .v (.int i), .v (.bl (decide (w = 1))), .v (lsD v), .un, s9, s10, .un] _ _
      fail "go"
      refine zif (fun e => ?_) fun e => ?_
      rotate_left
      · fail "go"
        exact ⟨v, _, _, rl, rb, by omega, rfl⟩
      fail "go"
      refine opd_ne (L2.Room.units hr) (tabs_pl _).1 (by fail "zpl") (tabs_pl _).2 (by fail "zdp") ?_
      refine ⟨_, rfl, ?_⟩
      by_cases hv : vs = []
      · refine zeF (by rw [hv]; rfl) ?_
        fail "go"
        exact ⟨v, _, _, rl, rb, by omega, rfl⟩
      have hp : 0 < vs.length := List.length_pos_iff.mpr hv
      refine zeT (by cases vs with | nil => exact absurd rfl hv | cons a vs => rfl) ?_
      extract_lets a a0 a1
      refine ixd_lstM (Pr := fun d => ∃ s : Int, d = .int s ∧ s.natAbs = 1) a0 a1 (by
        intro d hd
        simp only [List.mem_cons, List.not_mem_nil, or_false] at hd
        rcases hd with rfl | rfl
        · exact ⟨1, rfl, by decide⟩
        · exact ⟨-1, rfl, by decide⟩) ?_
      rintro d ⟨sg, rfl, sg1⟩
      refine ⟨_, _, by fail "zs", ?_⟩
      show StD _ _ _ _ [.v (.ref st), .v (.int c), .v (.int h), .v (.int s), .m (.lst (vs.map lsD)), .v (.int i), .v (.bl (decide (w = 1))), .v (lsD v), .un, .v (.int sg), s10, .un] _ _
      fail "go"
      rw [List.length_map]
      extract_lets b b0 b1
      obtain ⟨b, rfl⟩ : ∃ n : Nat, b = (n : Int) := ⟨b.toNat, by omega⟩
      have hb2 : b < vs.length := by omega
      refine ⟨b, _, rfl, atI_map (d := []) lsD hb2, ?_⟩
      have cm := getD_mem (d := []) hb2
      have cl := tab.len _ cm
      have cb := tab.sm _ cm
      generalize vs.getD b [] = c2 at *
      refine ⟨_, _, by fail "zs", ?_⟩
      show StD _ _ _ _ [.v (.ref st), .v (.int c), .v (.int h), .v (.int s), .m (.lst (vs.map lsD)), .v (.int i), .v (.bl (decide (w = 1))), .v (lsD v), .un, .v (.int sg), .v (.lst (c2.map Da.int)), .un] _ _
      fail "go"
      with_reducible refine st1_setLc (own := [("_law_item", 11)]) cx hr (.name (by fail "zi")) (.cons .nil (by fail "zs")) ?_ (hN := by with_unfolding_all exact ⟨7, rfl⟩)
      refine iter_seq ?_
      fail "go"
      refine And.intro (by rw [List.length_map]; exact len_small (show _ ≤ 6 by omega)) ?_
      refine compd_mapB Da.int (fun x => .int (sg * x)) (by fail "zi") rfl (by simp) ?_ ?_
      · rintro x hx P kk s0 H0 C0 cl0 fp0 cx' hr'
        have b1 := cb x hx
        show EvD _ _ _ _ [.v (.ref st), .v (.int c), .v (.int h), .v (.int s), .m (.lst (vs.map lsD)), .v (.int i), .v (.bl (decide (w = 1))), .v (lsD v), .un, .v (.int sg), .v (.lst (c2.map Da.int)), .v (.int x)] _ _
        fail "go"
        exact kk
      refine ⟨_, _, by fail "zs", ?_⟩
      rw [show (c2.map fun x => Da.int (sg * x)) = (c2.map fun x => sg * x).map Da.int by rw [List.map_map]; rfl]
      fail "go"
      refine ⟨c2.map fun x => sg * x, _, _, by rw [List.length_map]; exact cl, fun x hx => ?_, by omega, rfl⟩
      obtain ⟨y, hy, rfl⟩ := List.mem_map.mp hx
      rw [Int.natAbs_mul, sg1, Nat.one_mul]
      exact cb y hy
    rintro sl m4 ⟨v, s9, s10, rl, rb, hm4, rfl⟩
    show StD _ _ _ _ [.v (.ref st), .v (.int c), .v (.int h), .v (.int s), .m (.lst (vs.map lsD)), .v (.int i), .v (.bl (decide (w = 1))), .v (lsD v), .un, s9, s10, .un] _ _
    fail "go"
    refine ⟨vs ++ [v], _, _, _, _, _, by rw [List.length_append, vl]; rfl, by omega, ⟨fun u hu => (List.mem_append.mp hu).elim (tab.len u) (fun h => by rw [List.mem_singleton.mp h]; exact rl), fun u hu => (List.mem_append.mp hu).elim (tab.sm u) (fun h => by rw [List.mem_singleton.mp h]; exact rb)⟩, by omega, by rw [List.map_append]; rfl⟩
  rintro sl m2 ⟨vs, s5, s6, s7, s9, s10, vl, _, tab, hm2, rfl⟩
  rw [Int.toNat_natCast] at vl hm2
  refine std_cons ?_
  refine st1_retM cx (by fail "zn") ?_
  exact k vs m2 vl ⟨tab.len, fun v hv x hx => Nat.le_trans (tab.sm v hv x hx) s30⟩ (by omega)
end
end OS

namespace OS
open PySem L2 OZ PySem.Spec PyProof.Rows
/-! ### columns or rows, some with a wrong length -/
theorem getD_set {α : Type} (xs : List α) (a i : Nat) (w d : α) : (xs.set a w).getD i d = if a = i ∧ i < xs.length then w else xs.getD i d := by
  rw [List.getD_eq_getElem?_getD, List.getElem?_set, List.getD_eq_getElem?_getD]
  by_cases e : a = i
  · subst e
    rw [if_pos rfl]
    by_cases h : a < xs.length
    · rw [if_pos h, if_pos ⟨rfl, h⟩]; rfl
    · rw [if_neg h, if_neg (fun z => h z.2), List.getElem?_eq_none (by omega)]
  · rw [if_neg e, if_neg (fun z => e z.1)]
/-- the columns as the law hands them on: `wr`, the first wrong one at `z` -/
structure Cols (h c : Nat) (wr : Bool) (us : List (List Int)) (z : Nat) : Prop where
  len : us.length = c
  sm : ∀ u ∈ us, u.length ≤ 6 ∧ ∀ x ∈ u, x.natAbs ≤ 1000
  ok : wr = false → ∀ u ∈ us, u.length = h
  bad : wr = true → z < c ∧ (us.getD z []).length ≠ h ∧ ∀ i, i < z → (us.getD i []).length = h
theorem Cols.one {h c a : Nat} {vs : List (List Int)} {w : List Int} (C : Cols h c false vs 0) (ha : a < c) (hw : w.length ≠ h) (w6 : w.length ≤ 6) (wb : ∀ x ∈ w, x.natAbs ≤ 1000) : Cols h c true (vs.set a w) a := by
  have L := C.len
  refine ⟨by rw [List.length_set]; exact L, fun u hu => ?_, (fun h => nomatch h), fun _ => ⟨ha, ?_, fun i hi => ?_⟩⟩
  · rcases List.mem_or_eq_of_mem_set hu with h | h
    · exact C.sm u h
    · subst h; exact ⟨w6, wb⟩
  · rw [getD_set, if_pos ⟨rfl, by omega⟩]; exact hw
  · rw [getD_set, if_neg (by omega)]; exact C.ok rfl _ (getD_mem (by omega))
theorem Cols.two {h c a b : Nat} {vs : List (List Int)} {w w2 : List Int} (C : Cols h c false vs 0) (ha : a < c) (hb : b < c) (ne : b ≠ a) (hw : w.length ≠ h) (w6 : w.length ≤ 6) (wb : ∀ x ∈ w, x.natAbs ≤ 1000) (hw2 : w2.length ≠ h) (w62 : w2.length ≤ 6) (wb2 : ∀ x ∈ w2, x.natAbs ≤ 1000) : Cols h c true ((vs.set a w).set b w2) (if a ≤ b then a else b) := by
  have L := C.len
  have C1 := C.one ha hw w6 wb
  refine ⟨by rw [List.length_set]; exact C1.len, fun u hu => ?_, (fun h => nomatch h), fun _ => ⟨by split <;> omega, ?_, fun i hi => ?_⟩⟩
  · rcases List.mem_or_eq_of_mem_set hu with h | h
    · exact C1.sm u h
    · subst h; exact ⟨w62, wb2⟩
  · by_cases e : a ≤ b
    · rw [if_pos e, getD_set, if_neg (by omega)]; exact (C1.bad rfl).2.1
    · rw [if_neg e, getD_set, if_pos ⟨rfl, by rw [List.length_set]; omega⟩]; exact hw2
  · have : i < a ∧ i < b := by split at hi <;> omega
    rw [getD_set, if_neg (by omega), getD_set, if_neg (by omega)]; exact C.ok rfl _ (getD_mem (by omega))
theorem st1_cut {M : Mode} {X : Cx} {KE : Ks} {st : Stmt} {sl : List Sl} {D : Kn} {m : Nat} (Mid : List Sl → Nat → Prop) (h : St1 M X KE st sl { D with nx := Mid } m) (k : ∀ sl' m', Mid sl' m' → D.nx sl' m') : St1 M X KE st sl D m := fun G0 H0 G H σ W E ok so wi po => h G0 H0 G H σ W E ok so wi ⟨fun σ' sl' m' G' H' q ok' so' => po.nx σ' sl' m' G' H' (k _ _ q) ok' so', po.rt, po.bk, po.ct, po.rn⟩
theorem std_alt {M : Mode} {X : Cx} {KE : Ks} {ss : List Stmt} {sl : List Sl} {D : Kn} {m : Nat} (S : List Sl → Prop) (hs : ∀ sl', S sl' → StD M X KE ss sl' D m) (h : (∀ sl', S sl' → StD M X KE ss sl' D m) → StD M X KE ss sl D m) : StD M X KE ss sl D m := h hs
theorem av_ls (v : List Int) : avD (lsD v) = true := by
  show (v.map Da.int).all flD = true
  rw [List.all_map]
  exact List.all_eq_true.mpr fun x _ => rfl
section
variable {B : Bd} {f : Addr} {fd : FuncData}
theorem isintC_ok (Fn : Fun B.K "_law_is_integer" "_law_is_integer" l_is_integer f fd) (hb : Binds B.K fd ["_law_actual"] []) (T : Bn B) (k1 : KitG B.K (.type "int") (.type "int") true) (k2 : KitG B.K (.type "int") (.type "bool") false) : FnGC pureM B 1 f 1 FIsInt := by
  refine fnGC_ok Fn c_l_is_integer rfl hb ?_
  rintro X ds KR KE m ⟨cdv, A, outer, s, H, E, rfl⟩ cx hr hl ⟨i, rfl, k⟩
  show StD _ _ _ _ [.v (.int i)] _ _
  fail "go"
  exact k
end
end OS

namespace OS
open PySem L2 OZ PySem.Spec PyProof.Rows
/-! kernel, whose list is new -/
section
variable {B : Bd} {f CL CO : Addr} {fd : FuncData}
theorem kernN_ok (Fn : Fun B.K "kernel" "kernel" s_kernel f fd) (T : Bn B) (EL : CallG pureM B 3 "check_lengths" 2 (FCheckLen CL)) (ES : CallG pureM B 4 "_solved" 1 FSolved) (EI : CallG pureM B 3 "_kernel_item" 3 FKItem) : FnOk B.P B.w B.K B.mg B.base (L2.CX B.P B.w) 5 f fd ["rows", "width"] (spDN pureM B.K 2 (FKern CL)) := by
  refine fnOkN_X Fn c_s_kernel rfl ?_
  rintro X ds KR KE m ⟨cdv, A, outer, s, H, E, rfl⟩ cx hr hl ⟨u, cs, n, rfl, k1, ⟨c6, n9, sm⟩, k2⟩
  show StD _ _ _ _ [.v (rowsD u cs), .v (.int n), .un, .un, .un, .un, .un] _ _
  fail "go"
  refine ⟨u, cs, n, rfl, fun hlen => ?_, k2⟩
  have rw : Rws n cs := ⟨c6, n9, hlen, sm⟩
  have k1 := k1 rw
  fail "go"
  refine ⟨u, cs, n, rfl, rw, fun S hS => ?_⟩
  have iv : SInv n 16384 (cs.map (·.2)) (S.map svE) := by rw [hS]; exact solveI_ok (by decide) rw.inv
  have cnt := iv.cnt
  rw [List.length_map, List.length_map] at cnt
  fail "go"
  refine evd_lc (own := [("place", 4), ("_", 5)]) cx hr (.two (.name (by fail "zi")) (.name (by fail "zi"))) (.cons (.cons .nil (by fail "zs")) (by fail "zs")) ?_
  refine iter_seq ?_
  fail "go"
  refine And.intro (by rw [List.length_map]; exact len_small (show S.length ≤ 6 by omega)) ?_
  refine compd_mapL2 (fun e : Nat × Bool × List Int => .int (e.1 : Int)) (fun e => rowD e.2) (fun e => .int (e.1 : Int)) (by fail "zi") (by fail "zi") rfl (by simp) (by simp) ?_ ?_
  · rintro e he P kk s0 H0 C0 cl0 fp0 cx' hr'
    show EvD _ _ _ _ [.v (rowsD u cs), .v (.int n), .v (.lst (S.map svD)), .un, .v (.int (e.1 : Int)), .v (rowD e.2), .un] _ _
    fail "go"
    exact kk
  refine ⟨_, _, by fail "zs", ?_⟩
  refine std_cons ?_
  refine st1_retN' ?_
  refine evn_lc (own := [("free", 6)]) cx hr (.name (by fail "zi")) (.cons .nil (by fail "zs")) ?_
  refine iter_range cx T.range ?_
  fail "go"
  refine And.intro (by rw [intsD_len]; exact len_small (show _ ≤ 9 by omega)) ?_
  rw [intsD_map]
  have hin : ∀ f : Nat, inD (.int (f : Int)) (S.map fun e => Da.int (e.1 : Int)) = !decide (f ∉ (S.map svE).map (·.1)) := fun f => by
    have := inD_nat f ((S.map svE).map (·.1))
    rw [show S.map (fun e => Da.int (e.1 : Int)) = (((S.map svE).map (·.1)).map fun e : Nat => Da.int (e : Int)) by rw [List.map_map, List.map_map]; rfl]
    exact this
  refine compd_filtL (fun f : Nat => Da.int (f : Int)) (fun f => decide (f ∉ (S.map svE).map (·.1))) (fun f => rowD (true, kitem (S.map svE) n f)) (by fail "zi") rfl (by simp) ?_ ?_ ?_
  · rintro f hf P kk s0 H0 C0 cl0 fp0 cx' hr'
    show EvT _ _ _ _ [.v (rowsD u cs), .v (.int n), .v (.lst (S.map svD)), .v (.lst (S.map fun e => Da.int (e.1 : Int))), .un, .un, .v (.int (f : Int))] _ _
    fail "go"
    refine opd_ninL rfl ?_ ?_
    · rw [List.all_map]; exact List.all_eq_true.mpr fun _ _ => rfl
    rw [hin, Bool.not_not]
    fail "go"
    exact kk
  · rintro f hf ht P kk s0 H0 C0 cl0 fp0 cx' hr'
    show EvD _ _ _ _ [.v (rowsD u cs), .v (.int n), .v (.lst (S.map svD)), .v (.lst (S.map fun e => Da.int (e.1 : Int))), .un, .un, .v (.int (f : Int))] _ _
    fail "go"
    refine ⟨S, cs.map (·.2), n, f, rfl, iv, by rw [List.length_map]; exact c6, n9, by have := List.mem_range.mp hf; omega, by simpa using ht, ?_⟩
    fail "go"
    exact kk
  fail "go"
  rw [Int.toNat_natCast]
  unfold kernI freeF at k1
  rw [← hS, List.map_map] at k1
  exact k1
theorem FKern.nd (CL : Addr) : ∀ ds KR KE m, FKern CL ds KR KE m → FKern CL ds (fun d m => KR d m ∧ notDct d = true) KE m := fun ds KR KE m ⟨u, cs, n, e, k, r⟩ => ⟨u, cs, n, e, fun rw => ⟨k rw, rfl⟩, r⟩
end
end OS

namespace OS
open PySem L2 OZ PySem.Spec PyProof.Rows
/-! ### law_k23: the law -/
section
variable {B : Bd} {f fS CL ONE : Addr} {fd dS : FuncData}
theorem law_ok (Fn : Fun B.K "law" "law" sLaw f fd) (T : Bn B) (ES : FnOk B.P B.w B.K B.mg B.base CX0 1 fS dS ["_law_script"] (spStartD B.K)) (mS : B.mg "_law_start" = some (.ref fS)) (kS : PySem.W.keepIn B.K (.ref fS) = true) (bS : Binds B.K dS ["_law_script"] [])
    (ET' : ∀ st, CallG (drawM st) B 1 "_law_draw" 2 (FDraw st)) (EW' : ∀ st, CallGN (drawM st) B 2 "_law_rows" 3 (FRowsD st)) (EC' : ∀ st, CallG (drawM st) B 2 "_law_change_length" 2 (FChg st)) (EIC : CallGC pureM B 1 "_law_is_integer" 1 FIsInt) (ER : CallG pureM B 2 "_law_right" 3 FRight) (EN : CallGN pureM B 5 "kernel" 2 (FKern CL)) (EK : CallGK pureM B 5 "kernel" 0 ["width", "rows"] (fun _ es => (es.drop 1).take 1 ++ (es.drop 0).take 1) (FKern CL))
    (mR : B.mg "BadLength" = some (.ref CL)) (te : PySem.W.exmOne B.K (.ref CL) (.ref CL) = some true) (ex : ErrX B CL "length") (XE : ExcC B.K CL) (mO : B.mg "OneshardError" = some (.ref ONE)) (kO : KitG B.K (.ref CL) (.ref ONE) true) : FnOk B.P B.w B.K B.mg B.base CX0 10 f fd ["_law_script"] (OZ.spLaw B.K) := by
  refine law_draw (k := 9) Fn c_sLaw rfl ES mS kS bS rfl rfl (by first | exact Or.inl rfl | exact Or.inr rfl) (fun X h => by first | rfl | (unfold swapsWith; simp [h]; rfl)) ?_ (by decide)
  rintro X st ⟨cdv, A, outer, s, H, E, rfl⟩ cx hr
  have ET := ET' st
  have EW := EW' st
  have EC := EC' st
  show StD _ _ _ _ [.un, .v (.ref st), .un, .un, .un, .un, .un, .un, .un, .un, .un, .un, .un] _ _
  extract_lets h h0 h1
  refine FDraw.use (by omega) (by omega) (by omega) fun c c0 c1 => ?_
  refine ⟨_, _, by fail "zs", ?_⟩
  obtain ⟨h, rfl⟩ : ∃ n : Nat, h = (n : Int) := ⟨h.toNat, by omega⟩
  obtain ⟨c, rfl⟩ : ∃ n : Nat, c = (n : Int) := ⟨c.toNat, by omega⟩
  show StD _ _ _ _ [.un, .v (.ref st), .v (.int h), .v (.int c), .un, .un, .un, .un, .un, .un, .un, .un, .un] _ _
  refine std_cut (fun sl' m' => ∃ wr : Bool, (wr = true → 0 < c) ∧ m' ≤ 3 ∧ sl' = [.un, .v (.ref st), .v (.int h), .v (.int c), .v (.bl wr), .un, .un, .un, .un, .un, .un, .un, .un]) ?_ ?_
  · extract_lets w w0 w1
    refine zif (fun e => ?_) fun e => ?_
    · fail "go"
      exact ⟨_, fun h => by have := of_decide_eq_true h; omega, by decide, rfl⟩
    · fail "go"
      exact ⟨false, fun h => (nomatch h), by decide, rfl⟩
  rintro sl m1 ⟨wr, wc, hm1, rfl⟩
  have oh : OwnHint "_law_table" := trivial
  fail "go"
  refine ⟨c, h, rfl, by omega, by omega, by omega, fun vs m2 vl tab hm2 => ?_⟩
  have C0 : Cols h c false vs 0 := ⟨vl, fun u hu => ⟨by rw [tab.len u hu]; omega, tab.sm u hu⟩, fun _ => tab.len, fun h => nomatch h⟩
  refine ⟨_, _, by fail "zs", ?_⟩
  refine std_cut (fun sl' m' => m' ≤ 90 ∧ sl' = [.un, .v (.ref st), .v (.int h), .v (.int c), .v (.bl wr), .m (.lst (vs.map lsD)), .v (.int 0), .un, .un, .un, .un, .un, .un]) ?_ ?_
  · show St1 _ _ _ _ [.un, .v (.ref st), .v (.int h), .v (.int c), .v (.bl wr), .m (.lst (vs.map lsD)), .un, .un, .un, .un, .un, .un, .un] _ _
    fail "go"
    exact rfl
  rintro sl m4 ⟨hm4, rfl⟩
  refine std_cut (fun sl' m' => ∃ (us : List (List Int)) (z : Nat) (s7 : Sl), Cols h c wr us z ∧ m' ≤ 96 ∧ sl' = [.un, .v (.ref st), .v (.int h), .v (.int c), .v (.bl wr), .v (.lst (us.map lsD)), .v (.int z), s7, .un, .un, .un, .un, .un]) ?_ ?_
  · cases wr with
    | false =>
      have ph : PubHint 5 := trivial
      fail "go"
      exact ⟨vs, 0, _, C0, by omega, rfl⟩
    | true =>
      have cp := wc rfl
      show St1 _ _ _ _ [.un, .v (.ref st), .v (.int h), .v (.int c), .v (.bl true), .m (.lst (vs.map lsD)), .v (.int 0), .un, .un, .un, .un, .un, .un] _ _
      fail "go"
      extract_lets a a0 a1
      extract_lets b b0 b1
      obtain ⟨a, rfl⟩ : ∃ n : Nat, a = (n : Int) := ⟨a.toNat, by omega⟩
      obtain ⟨b, rfl⟩ : ∃ n : Nat, b = (n : Int) := ⟨b.toNat, by omega⟩
      have ha : a < vs.length := by omega
      have va := tab.len _ (getD_mem (d := []) ha)
      refine ⟨a, _, rfl, atI_map (d := []) lsD ha, ?_⟩
      fail "go"
      refine ⟨_, rfl, by omega, by omega, fun x hx => tab.sm _ (getD_mem ha) x hx, fun w m' w1 w6 wb hm' => ?_⟩
      rw [va] at w1
      have C1 := C0.one (show a < c by omega) w1 w6 wb
      fail "go"
      refine ⟨a, a, rfl, ixN_at a0 (by rw [List.length_map]; omega), ?_⟩
      refine ⟨_, _, by fail "zs", ?_⟩
      rw [show (vs.map lsD).set a (lsD w) = (vs.set a w).map lsD from List.map_set.symm]
      show StD _ _ _ _ [.un, .v (.ref st), .v (.int h), .v (.int c), .v (.bl true), .m (.lst ((vs.set a w).map lsD)), .v (.int a), .v (.int b), .un, .un, .un, .un, .un] _ _
      refine std_cut (fun sl' m2' => ∃ us, Cols h c true us (if a ≤ b then a else b) ∧ m2' ≤ 96 ∧ sl' = [.un, .v (.ref st), .v (.int h), .v (.int c), .v (.bl true), .m (.lst (us.map lsD)), .v (.int a), .v (.int b), .un, .un, .un, .un, .un]) ?_ ?_
      · fail "go"
        refine zifn (fun e => ?_) fun e => ?_
        · have hb : b < (vs.set a w).length := by rw [List.length_set]; omega
          have ne : b ≠ a := fun z => e (by rw [z])
          have vb : ((vs.set a w).getD b []) = vs.getD b [] := by rw [getD_set, if_neg (fun z => ne z.1.symm)]
          have vb2 := tab.len _ (getD_mem (xs := vs) (k := b) (d := []) (by omega))
          fail "go"
          refine ⟨b, _, rfl, atI_map (d := []) lsD hb, ?_⟩
          rw [vb]
          fail "go"
          refine ⟨_, rfl, by omega, by omega, fun x hx => tab.sm _ (getD_mem (by omega)) x hx, fun w2 m'' w21 w26 w2b hm'' => ?_⟩
          rw [vb2] at w21
          fail "go"
          refine ⟨b, b, rfl, ixN_at b0 (by rw [List.length_map]; omega), ?_⟩
          refine ⟨_, _, by fail "zs", ?_⟩
          rw [show ((vs.set a w).map lsD).set b (lsD w2) = ((vs.set a w).set b w2).map lsD from List.map_set.symm]
          fail "go"
          exact ⟨_, C0.two (show a < c by omega) (by omega) ne w1 w6 wb w21 w26 w2b, by omega, rfl⟩
        · have e : b = a := by omega
          fail "go"
          exact ⟨_, by rw [e, if_pos (Nat.le_refl a)]; exact C1, by omega, rfl⟩
      rintro sl m6 ⟨us, C2, hm6, rfl⟩
      have ph : PubHint 5 := trivial
      fail "go"
      refine cd_minL (ns := [(a : Int), (b : Int)]) (Nat.zero_lt_succ _) fun z1 hz1 hz2 => ?_
      have z1e : z1 = ((if a ≤ b then a else b : Nat) : Int) := by
        have q1 := hz2 a (by simp)
        have q2 := hz2 b (by simp)
        simp only [List.mem_cons, List.not_mem_nil, or_false] at hz1
        split <;> omega
      rw [z1e]
      refine ⟨_, _, by fail "zs", ?_⟩
      fail "go"
      exact ⟨us, _, _, C2, by omega, rfl⟩
  rintro sl m5 ⟨us, z, s7, C, hm5, rfl⟩
  have ul := C.len
  fail "go"
  with_reducible refine st1_setLc (own := [("_law_row", 9)]) cx hr (.name (by fail "zi")) (.cons .nil (by fail "zs")) ?_ (hN := by with_unfolding_all exact ⟨8, rfl⟩)
  refine iter_seq ?_
  fail "go"
  refine And.intro (by rw [List.length_map]; exact len_small (show _ ≤ 6 by omega)) ?_
  refine compd_mapB lsD lsD (by fail "zi") rfl (by simp) ?_ ?_
  · rintro v hv P kk s0 H0 C0 cl0 fp0 cx' hr'
    show EvD _ _ _ _ [.un, .v (.ref st), .v (.int h), .v (.int c), .v (.bl wr), .v (.lst (us.map lsD)), .v (.int z), s7, .un, .v (.lst (v.map Da.int)), .un, .un, .un] _ _
    fail "go"
    exact kk
  refine ⟨_, _, by fail "zs", ?_⟩
  refine std_cut (fun sl' m2' => ∃ tp : Bool, m2' ≤ 97 ∧ sl' = [.un, .v (.ref st), .v (.int h), .v (.int c), .v (.bl wr), .v (.lst (us.map lsD)), .v (.int z), s7, .v (.lst (us.map fun v => rowD (tp, v))), .un, .un, .un, .un]) ?_ ?_
  · extract_lets a a0 a1
    refine zif (fun e => ?_) fun e => ?_
    rotate_left
    · fail "go"
      exact ⟨false, by omega, rfl⟩
    fail "go"
    with_reducible refine st1_setLc (own := [("_law_row", 9)]) cx hr (.name (by fail "zi")) (.cons .nil (by fail "zs")) ?_ (hN := by with_unfolding_all exact ⟨8, rfl⟩)
    refine iter_seq ?_
    fail "go"
    refine And.intro (by rw [List.length_map]; exact len_small (show _ ≤ 6 by omega)) ?_
    refine compd_mapB lsD (fun v => rowD (true, v)) (by fail "zi") rfl (by simp) ?_ ?_
    · rintro v hv P kk s0 H0 C0 cl0 fp0 cx' hr'
      show EvD _ _ _ _ [.un, .v (.ref st), .v (.int h), .v (.int c), .v (.bl wr), .v (.lst (us.map lsD)), .v (.int z), s7, _, .v (.lst (v.map Da.int)), .un, .un, .un] _ _
      fail "go"
      exact kk
    refine ⟨_, _, by fail "zs", ?_⟩
    fail "go"
    exact ⟨true, by omega, rfl⟩
  rintro sl m6 ⟨tp, hm6, rfl⟩
  rw [show (us.map fun v => rowD (tp, v)) = (us.map fun v => ((tp, v) : Bool × List Int)).map rowD by rw [List.map_map]; rfl]
  have sn : (us.map fun v => ((tp, v) : Bool × List Int)).map (·.2) = us := by rw [List.map_map]; exact List.map_id _
  have smc : ∀ c ∈ (us.map fun v => ((tp, v) : Bool × List Int)), ∀ x ∈ c.2, x.natAbs ≤ 16384 := fun d hd x hx => by
    obtain ⟨v, hv, rfl⟩ := List.mem_map.mp hd
    exact Nat.le_trans ((C.sm v hv).2 x hx) (by decide)
  fail "go"
  have oh2 : OwnHint "_law_actual" := trivial
  refine st1_cut (fun sl' m' => ∃ (act : Sl) (len : Int), (wr = false ∧ len = -1 ∧ act = .m (.lst ((kernI us h).map fun v => rowD (true, v))) ∨ wr = true ∧ len = ((us.getD z []).length : Int) ∧ act = .v .non) ∧ m' = m6 ∧ sl' = [.un, .v (.ref st), .v (.int h), .v (.int c), .v (.bl wr), .v (.lst (us.map lsD)), .v (.int z), s7, .v (.lst ((us.map fun v => ((tp, v) : Bool × List Int)).map rowD)), .un, .v (.int len), act, .un]) ?_ ?_
  · refine st1_tryI (fun sl' fs' m' => sl' = [.un, .v (.ref st), .v (.int h), .v (.int c), .v (.bl wr), .v (.lst (us.map lsD)), .v (.int z), s7, .v (.lst ((us.map fun v => ((tp, v) : Bool × List Int)).map rowD)), .un, .v (.int (-1)), .v .non, .un] ∧ fs' = ([("length", .int ((us.getD z []).length : Int))] : List (Str × Da)) ∧ m' = m6 ∧ wr = true) cx mR (by fail "zi") te ?_ ?_
    · intro pn xe ps cxt
      fail "go"
      refine ⟨false, us.map fun v => (tp, v), h, rfl, fun RW => ?_, ⟨by rw [List.length_map]; omega, by omega, smc⟩, fun i d hd hb hne => ?_⟩
      · have w0 : wr = false := by
          cases e : wr with
          | false => rfl
          | true =>
            obtain ⟨q1, q2, _⟩ := C.bad e
            have := RW.len (tp, us.getD z []) (List.mem_map.mpr ⟨_, getD_mem (by omega), rfl⟩)
            exact absurd this q2
        rw [sn]
        fail "go"
        exact ⟨_, -1, .inl ⟨w0, rfl, rfl⟩, rfl, rfl⟩
      · rw [List.getElem?_map] at hd
        obtain ⟨u, hu, rfl⟩ := Option.map_eq_some_iff.mp hd
        have um := List.mem_of_getElem? hu
        obtain ⟨il, hu2⟩ := List.getElem?_eq_some_iff.mp hu
        have ug : us.getD i [] = u := by rw [List.getD_eq_getElem?_getD, hu]; rfl
        have hne : u.length ≠ h := hne
        cases e : wr with
        | false => exact absurd (C.ok e u um) hne
        | true =>
          obtain ⟨q1, q2, q3⟩ := C.bad e
          have iz : i = z := by
            rcases Nat.lt_trichotomy i z with h | h | h
            · exact absurd (by rw [← ug]; exact q3 i h : u.length = _) hne
            · exact h
            · have := hb (tp, us.getD z []) (by rw [← List.map_take]; refine List.mem_map.mpr ⟨_, ?_, rfl⟩; rw [List.getD_eq_getElem?_getD, List.getElem?_eq_getElem (by omega)]; exact List.mem_take_iff_getElem.mpr ⟨z, by omega, rfl⟩)
              exact absurd this q2
          subst iz
          exact ⟨rfl, rfl, rfl, by show _ = _; rw [ug], rfl, rfl⟩
    · rintro sl' fs' m' a oe dd pn ⟨rfl, rfl, rfl, rfl⟩ su cxs
      show StD _ _ _ _ [.un, .v (.ref st), .v (.int h), .v (.int c), .v (.bl true), .v (.lst (us.map lsD)), .v (.int z), s7, .v (.lst ((us.map fun v => ((tp, v) : Bool × List Int)).map rowD)), .un, .v (.int (-1)), .v .non, .v (.exc a dd [("length", .int ((us.getD z []).length : Int))])] _ _
      fail "go"
      refine cd_isE cxs su XE (.own ONE) kO ?_
      fail "go"
      refine evd_callC cxs EIC (roomH_suite (k := 1) cxs hr) ?_
      fail "go"
      refine ⟨_, rfl, ?_⟩
      fail "go"
      exact ⟨_, _, .inr ⟨rfl, rfl, rfl⟩, rfl, rfl⟩
  rintro sl m7 ⟨act, len, hc, rfl, rfl⟩
  fail "go"
  refine evd_lc (own := [("_law_row", 9)]) cx hr (.name (by fail "zi")) (.cons .nil (by fail "zs")) ?_
  refine iter_seq ?_
  fail "go"
  refine And.intro (by rw [List.length_map, List.length_map]; exact len_small (show _ ≤ 6 by omega)) ?_
  refine compd_mapB rowD (fun d => lsD d.2) (by fail "zi") rfl (by simp) ?_ ?_
  · rintro d hd P kk s0 H0 C0 cl0 fp0 cx' hr'
    obtain ⟨v, hv, rfl⟩ := List.mem_map.mp hd
    cases tp
    · show EvD _ _ _ _ [.un, .v (.ref st), .v (.int h), .v (.int c), .v (.bl wr), .v (.lst (us.map lsD)), .v (.int z), s7, _, .v (.lst (v.map Da.int)), .v (.int len), act, .un] _ _
      fail "go"
      exact kk
    · show EvD _ _ _ _ [.un, .v (.ref st), .v (.int h), .v (.int c), .v (.bl wr), .v (.lst (us.map lsD)), .v (.int z), s7, _, .v (.tup (v.map Da.int)), .v (.int len), act, .un] _ _
      fail "go"
      exact kk
  rw [show (us.map fun v => ((tp, v) : Bool × List Int)).map (fun d => lsD d.2) = us.map lsD by rw [List.map_map]; rfl]
  fail "go"
  refine opd_ne (L2.Room.units hr) (tabs_pl _).1 (tabs_pl _).1 (tabs_pl _).2 (tabs_pl _).2 ?_
  refine ⟨_, rfl, ?_⟩
  refine zdqF (tabs_pl _).1 ?_
  rcases hc with ⟨rfl, rfl, rfl⟩ | ⟨rfl, rfl, rfl⟩
  rotate_left
  · obtain ⟨q1, q2, q3⟩ := C.bad rfl
    fail "go"
    refine ixd_lst (atI_map (d := []) lsD (show z < us.length by omega)) ?_
    fail "go"
    exact congrArg Da.bl (decide_eq_true (by show _ = (((us.getD z []).map Da.int).length : Int); rw [List.length_map]))
  have tb : Tab h 1000 us := ⟨fun u hu => C.ok rfl u hu, fun u hu x hx => (C.sm u hu).2 x hx⟩
  have RW : Rws h (us.map fun v => (tp, v)) := tb.rws (by omega) (by omega) (by decide) _ sn
  have kl : (kernI us h).length ≤ 6 := by
    unfold kernI freeF
    rw [List.length_map]
    exact Nat.le_trans (List.length_filter_le _ _) (by rw [List.length_range]; omega)
  have kl2 : ((kernI us h).map fun v => rowD (true, v)).length ≤ 6 := by rw [List.length_map]; exact kl
  refine std_nil ?_
  refine std_cut (fun sl' m' => m' = m7 ∧ sl' = [.un, .v (.ref st), .v (.int h), .v (.int c), .v (.bl false), .v (.lst (us.map lsD)), .v (.int z), s7, .v (.lst ((us.map fun v => ((tp, v) : Bool × List Int)).map rowD)), .un, .v (.int (-1)), .m (.lst ((kernI us h).map fun v => rowD (true, v))), .un]) ?_ ?_
  · fail "go"
    exact rfl
  rintro sl m8 ⟨rfl, rfl⟩
  refine std_cut (fun sl' m' => m' = m8 ∧ sl' = [.un, .v (.ref st), .v (.int h), .v (.int c), .v (.bl false), .v (.lst (us.map lsD)), .v (.int z), s7, .v (.lst ((us.map fun v => ((tp, v) : Bool × List Int)).map rowD)), .un, .v (.int (-1)), .m (.lst ((kernI us h).map fun v => rowD (true, v))), .un]) ?_ ?_
  · refine st1_if ?_
    refine evt_bor (i := 11) rfl rfl ?_
    show EvT _ _ _ _ [.un, .v (.ref st), .v (.int h), .v (.int c), .v (.bl false), .v (.lst (us.map lsD)), .v (.int z), s7, .v (.lst ((us.map fun v => ((tp, v) : Bool × List Int)).map rowD)), .un, .v (.int (-1)), .v (.lst ((kernI us h).map fun v => rowD (true, v))), .un] _ _
    fail "go"
    refine ⟨us, h, rfl, tb, by omega, by omega, ?_⟩
    fail "go"
    exact rfl
  rintro sl m9 ⟨rfl, rfl⟩
  fail "go"
  refine evd_callK0 (ks := ["width", "rows"]) cx EK.lift hr ?_
  fail "go"
  show FKern CL [.lst ((us.map fun v => ((tp, v) : Bool × List Int)).map rowD), .int h] _ _ _
  refine ⟨false, us.map fun v => (tp, v), h, rfl, fun _ => ?_, ⟨by rw [List.length_map]; omega, by omega, smc⟩, fun i d hd hb hne => absurd (RW.len d (List.mem_of_getElem? hd)) hne⟩
  rw [sn]
  fail "go"
  refine ⟨us, h, rfl, tb, by omega, by omega, ?_⟩
  fail "go"
  exact rfl
end
end OS

end
namespace OS
open PySem L2
theorem all_mk {l : PySem.W.OpenLaw} {w : World} {K : PySem.W.Frag} {h : Heap} {mg : Str → Option Value} {fa : Addr} (X : K.In h) (G : h.Ns mainGlobals mg) (hfa : mg "law" = some (.ref fa))
    {COORge fOORge ONOORge : Addr} {odOORge anOORge : Option Addr} {slOORge : Array (Option Value)} {ocOORge kVOORge dcOORge pmOORge cdOORge ctOORge : Value} {nmOORge qnOORge : Str} {NUOORge : Addr} {bsOORge : List Value} {snOORge : List Str} {suOORge : List Value} {abOORge : Bool} {coOORge : Option Bool} {ddOORge : Option Addr} {k0OORge k1OORge k2OORge k3OORge k5OORge : Option Value} {CBLth fBLth ONBLth : Addr} {odBLth anBLth : Option Addr} {slBLth : Array (Option Value)} {ocBLth kVBLth dcBLth pmBLth cdBLth ctBLth : Value} {nmBLth qnBLth : Str} {NUBLth : Addr} {bsBLth : List Value} {snBLth : List Str} {suBLth : List Value} {abBLth : Bool} {coBLth : Option Bool} {ddBLth : Option Addr} {k0BLth k1BLth k2BLth k3BLth k5BLth : Option Value} {f_common_divisor : Addr} {od_common_divisor an_common_divisor : Option Addr} {sl_common_divisor : Array (Option Value)} {oc_common_divisor dc_common_divisor pm_common_divisor cd_common_divisor ct_common_divisor : Value} {kV_common_divisor : Value} {f_common_multiple : Addr} {od_common_multiple an_common_multiple : Option Addr} {sl_common_multiple : Array (Option Value)} {oc_common_multiple dc_common_multiple pm_common_multiple cd_common_multiple ct_common_multiple : Value} {kV_common_multiple : Value} {f_check_lengths : Addr} {od_check_lengths an_check_lengths : Option Addr} {sl_check_lengths : Array (Option Value)} {oc_check_lengths dc_check_lengths pm_check_lengths cd_check_lengths ct_check_lengths : Value} {kV_check_lengths : Value} {f_shortened : Addr} {od_shortened an_shortened : Option Addr} {sl_shortened : Array (Option Value)} {oc_shortened dc_shortened pm_shortened cd_shortened ct_shortened : Value} {kV_shortened : Value} {f_cleared : Addr} {od_cleared an_cleared : Option Addr} {sl_cleared : Array (Option Value)} {oc_cleared dc_cleared pm_cleared cd_cleared ct_cleared : Value} {kV_cleared : Value} {f_first_place : Addr} {od_first_place an_first_place : Option Addr} {sl_first_place : Array (Option Value)} {oc_first_place dc_first_place pm_first_place cd_first_place ct_first_place : Value} {kV_first_place : Value} {f_solved : Addr} {od_solved an_solved : Option Addr} {sl_solved : Array (Option Value)} {oc_solved dc_solved pm_solved cd_solved ct_solved : Value} {kV_solved : Value} {f_kernel_item : Addr} {od_kernel_item an_kernel_item : Option Addr} {sl_kernel_item : Array (Option Value)} {oc_kernel_item dc_kernel_item pm_kernel_item cd_kernel_item ct_kernel_item : Value} {kV_kernel_item : Value} {f_kernel : Addr} {od_kernel an_kernel : Option Addr} {sl_kernel : Array (Option Value)} {oc_kernel dc_kernel pm_kernel cd_kernel ct_kernel : Value} {kV_kernel : Value} {f_start : Addr} {od_start an_start : Option Addr} {sl_start : Array (Option Value)} {oc_start dc_start pm_start cd_start ct_start : Value} {kV_start : Value} {f_draw : Addr} {od_draw an_draw : Option Addr} {sl_draw : Array (Option Value)} {oc_draw dc_draw pm_draw cd_draw ct_draw : Value} {kV_draw : Value} {f_Lis_integer : Addr} {od_Lis_integer an_Lis_integer : Option Addr} {sl_Lis_integer : Array (Option Value)} {oc_Lis_integer dc_Lis_integer pm_Lis_integer cd_Lis_integer ct_Lis_integer : Value} {kV_Lis_integer : Value} {f_Lrank : Addr} {od_Lrank an_Lrank : Option Addr} {sl_Lrank : Array (Option Value)} {oc_Lrank dc_Lrank pm_Lrank cd_Lrank ct_Lrank : Value} {kV_Lrank : Value} {f_Lright : Addr} {od_Lright an_Lright : Option Addr} {sl_Lright : Array (Option Value)} {oc_Lright dc_Lright pm_Lright cd_Lright ct_Lright : Value} {kV_Lright : Value} {f_Lrows : Addr} {od_Lrows an_Lrows : Option Addr} {sl_Lrows : Array (Option Value)} {oc_Lrows dc_Lrows pm_Lrows cd_Lrows ct_Lrows : Value} {kV_Lrows : Value} {f_Lchange_length : Addr} {od_Lchange_length an_Lchange_length : Option Addr} {sl_Lchange_length : Array (Option Value)} {oc_Lchange_length dc_Lchange_length pm_Lchange_length cd_Lchange_length ct_Lchange_length : Value} {kV_Lchange_length : Value} {f_law : Addr} {od_law an_law : Option Addr} {sl_law : Array (Option Value)} {oc_law dc_law pm_law cd_law ct_law : Value} {kV_law : Value} {CONE : Addr}
    (kit1 : PySem.W.subIn K (.type "int") (.type "bool") = some false)
    (eaOORge : PySem.W.nsIn K mainGlobals "OutOfRange" = some (some (.ref COORge)))
    (eLOORge : K.lookup COORge = some (excClassObj nmOORge qnOORge COORge NUOORge bsOORge [.ref ONOORge, .type "ValueError", .type "Exception", .type "BaseException", .type "object"] true snOORge suOORge abOORge coOORge ddOORge k0OORge k1OORge k2OORge k3OORge k5OORge "ValueError.__new__"))
    (esOORge : PySem.W.findIn K (.ref COORge) "__setattr__" = some (some (.builtin "object.__setattr__")))
    (exOORge : PySem.W.subIn K (.ref COORge) (.type "BaseException") = some true)
    (etOORge : PySem.W.typeIn K (.ref COORge) = some (.type "type"))
    (ekOORge : PySem.W.keepIn K (.ref COORge) = true)
    (eiOORge : PySem.W.findIn K (.ref COORge) "__init__" = some (some (.ref fOORge)))
    (eTOORge : PySem.W.typeIn K (.ref fOORge) = some (.type "function"))
    (enOORge : PySem.W.findIn K (.ref COORge) "value" = some none)
    (egOORge : PySem.W.findIn K (.ref COORge) "__getattribute__" = some (some (.builtin "BaseException.__getattribute__")))
    (eGOORge : PySem.W.findIn K (.ref COORge) "__getattr__" = some none)
    (ehOORge : PySem.W.hasDictIn K COORge = true)
    (euOORge : PySem.W.subIn K (.ref COORge) (.ref COORge) = some true)
    (elOORge : K.lookup fOORge = some ⟨ocOORge, odOORge, .func (PySem.W.fnOf "__init__" "OutOfRange.__init__" (defArgs sOutOfRange_init) (defBody sOutOfRange_init) (defScope sOutOfRange_init) .none kVOORge dcOORge pmOORge anOORge cdOORge ctOORge), slOORge⟩)
    (ecOORge : PySem.W.codeIn K cdOORge "OutOfRange.__init__" = true)
    (efOORge : PySem.W.keepIn K (.ref fOORge) = true)
    (eaBLth : PySem.W.nsIn K mainGlobals "BadLength" = some (some (.ref CBLth)))
    (eLBLth : K.lookup CBLth = some (excClassObj nmBLth qnBLth CBLth NUBLth bsBLth [.ref ONBLth, .type "ValueError", .type "Exception", .type "BaseException", .type "object"] true snBLth suBLth abBLth coBLth ddBLth k0BLth k1BLth k2BLth k3BLth k5BLth "ValueError.__new__"))
    (esBLth : PySem.W.findIn K (.ref CBLth) "__setattr__" = some (some (.builtin "object.__setattr__")))
    (exBLth : PySem.W.subIn K (.ref CBLth) (.type "BaseException") = some true)
    (etBLth : PySem.W.typeIn K (.ref CBLth) = some (.type "type"))
    (ekBLth : PySem.W.keepIn K (.ref CBLth) = true)
    (eiBLth : PySem.W.findIn K (.ref CBLth) "__init__" = some (some (.ref fBLth)))
    (eTBLth : PySem.W.typeIn K (.ref fBLth) = some (.type "function"))
    (enBLth : PySem.W.findIn K (.ref CBLth) "length" = some none)
    (egBLth : PySem.W.findIn K (.ref CBLth) "__getattribute__" = some (some (.builtin "BaseException.__getattribute__")))
    (eGBLth : PySem.W.findIn K (.ref CBLth) "__getattr__" = some none)
    (ehBLth : PySem.W.hasDictIn K CBLth = true)
    (euBLth : PySem.W.subIn K (.ref CBLth) (.ref CBLth) = some true)
    (elBLth : K.lookup fBLth = some ⟨ocBLth, odBLth, .func (PySem.W.fnOf "__init__" "BadLength.__init__" (defArgs sBadLength_init) (defBody sBadLength_init) (defScope sBadLength_init) .none kVBLth dcBLth pmBLth anBLth cdBLth ctBLth), slBLth⟩)
    (ecBLth : PySem.W.codeIn K cdBLth "BadLength.__init__" = true)
    (efBLth : PySem.W.keepIn K (.ref fBLth) = true)
    (a_common_divisor : PySem.W.nsIn K mainGlobals "common_divisor" = some (some (.ref f_common_divisor)))
    (lk_common_divisor : K.lookup f_common_divisor = some ⟨oc_common_divisor, od_common_divisor, .func (PySem.W.fnOf "common_divisor" "common_divisor" (defArgs s_common_divisor) (defBody s_common_divisor) (defScope s_common_divisor) .none kV_common_divisor dc_common_divisor pm_common_divisor an_common_divisor cd_common_divisor ct_common_divisor), sl_common_divisor⟩)
    (cq_common_divisor : PySem.W.codeIn K cd_common_divisor "common_divisor" = true)
    (k_common_divisor : PySem.W.keepIn K (.ref f_common_divisor) = true)
    (a_common_multiple : PySem.W.nsIn K mainGlobals "common_multiple" = some (some (.ref f_common_multiple)))
    (lk_common_multiple : K.lookup f_common_multiple = some ⟨oc_common_multiple, od_common_multiple, .func (PySem.W.fnOf "common_multiple" "common_multiple" (defArgs s_common_multiple) (defBody s_common_multiple) (defScope s_common_multiple) .none kV_common_multiple dc_common_multiple pm_common_multiple an_common_multiple cd_common_multiple ct_common_multiple), sl_common_multiple⟩)
    (cq_common_multiple : PySem.W.codeIn K cd_common_multiple "common_multiple" = true)
    (k_common_multiple : PySem.W.keepIn K (.ref f_common_multiple) = true)
    (a_check_lengths : PySem.W.nsIn K mainGlobals "check_lengths" = some (some (.ref f_check_lengths)))
    (lk_check_lengths : K.lookup f_check_lengths = some ⟨oc_check_lengths, od_check_lengths, .func (PySem.W.fnOf "check_lengths" "check_lengths" (defArgs s_check_lengths) (defBody s_check_lengths) (defScope s_check_lengths) .none kV_check_lengths dc_check_lengths pm_check_lengths an_check_lengths cd_check_lengths ct_check_lengths), sl_check_lengths⟩)
    (cq_check_lengths : PySem.W.codeIn K cd_check_lengths "check_lengths" = true)
    (k_check_lengths : PySem.W.keepIn K (.ref f_check_lengths) = true)
    (a_shortened : PySem.W.nsIn K mainGlobals "shortened" = some (some (.ref f_shortened)))
    (lk_shortened : K.lookup f_shortened = some ⟨oc_shortened, od_shortened, .func (PySem.W.fnOf "shortened" "shortened" (defArgs s_shortened) (defBody s_shortened) (defScope s_shortened) .none kV_shortened dc_shortened pm_shortened an_shortened cd_shortened ct_shortened), sl_shortened⟩)
    (cq_shortened : PySem.W.codeIn K cd_shortened "shortened" = true)
    (k_shortened : PySem.W.keepIn K (.ref f_shortened) = true)
    (a_cleared : PySem.W.nsIn K mainGlobals "_cleared" = some (some (.ref f_cleared)))
    (lk_cleared : K.lookup f_cleared = some ⟨oc_cleared, od_cleared, .func (PySem.W.fnOf "_cleared" "_cleared" (defArgs s_cleared) (defBody s_cleared) (defScope s_cleared) .none kV_cleared dc_cleared pm_cleared an_cleared cd_cleared ct_cleared), sl_cleared⟩)
    (cq_cleared : PySem.W.codeIn K cd_cleared "_cleared" = true)
    (k_cleared : PySem.W.keepIn K (.ref f_cleared) = true)
    (a_first_place : PySem.W.nsIn K mainGlobals "_first_place" = some (some (.ref f_first_place)))
    (lk_first_place : K.lookup f_first_place = some ⟨oc_first_place, od_first_place, .func (PySem.W.fnOf "_first_place" "_first_place" (defArgs s_first_place) (defBody s_first_place) (defScope s_first_place) .none kV_first_place dc_first_place pm_first_place an_first_place cd_first_place ct_first_place), sl_first_place⟩)
    (cq_first_place : PySem.W.codeIn K cd_first_place "_first_place" = true)
    (k_first_place : PySem.W.keepIn K (.ref f_first_place) = true)
    (a_solved : PySem.W.nsIn K mainGlobals "_solved" = some (some (.ref f_solved)))
    (lk_solved : K.lookup f_solved = some ⟨oc_solved, od_solved, .func (PySem.W.fnOf "_solved" "_solved" (defArgs s_solved) (defBody s_solved) (defScope s_solved) .none kV_solved dc_solved pm_solved an_solved cd_solved ct_solved), sl_solved⟩)
    (cq_solved : PySem.W.codeIn K cd_solved "_solved" = true)
    (k_solved : PySem.W.keepIn K (.ref f_solved) = true)
    (a_kernel_item : PySem.W.nsIn K mainGlobals "_kernel_item" = some (some (.ref f_kernel_item)))
    (lk_kernel_item : K.lookup f_kernel_item = some ⟨oc_kernel_item, od_kernel_item, .func (PySem.W.fnOf "_kernel_item" "_kernel_item" (defArgs s_kernel_item) (defBody s_kernel_item) (defScope s_kernel_item) .none kV_kernel_item dc_kernel_item pm_kernel_item an_kernel_item cd_kernel_item ct_kernel_item), sl_kernel_item⟩)
    (cq_kernel_item : PySem.W.codeIn K cd_kernel_item "_kernel_item" = true)
    (k_kernel_item : PySem.W.keepIn K (.ref f_kernel_item) = true)
    (a_kernel : PySem.W.nsIn K mainGlobals "kernel" = some (some (.ref f_kernel)))
    (lk_kernel : K.lookup f_kernel = some ⟨oc_kernel, od_kernel, .func (PySem.W.fnOf "kernel" "kernel" (defArgs s_kernel) (defBody s_kernel) (defScope s_kernel) .none kV_kernel dc_kernel pm_kernel an_kernel cd_kernel ct_kernel), sl_kernel⟩)
    (cq_kernel : PySem.W.codeIn K cd_kernel "kernel" = true)
    (k_kernel : PySem.W.keepIn K (.ref f_kernel) = true)
    (a_start : PySem.W.nsIn K mainGlobals "_law_start" = some (some (.ref f_start)))
    (lk_start : K.lookup f_start = some ⟨oc_start, od_start, .func (PySem.W.fnOf "_law_start" "_law_start" (defArgs sStart) (defBody sStart) (defScope sStart) .none kV_start dc_start pm_start an_start cd_start ct_start), sl_start⟩)
    (cq_start : PySem.W.codeIn K cd_start "_law_start" = true)
    (k_start : PySem.W.keepIn K (.ref f_start) = true)
    (a_draw : PySem.W.nsIn K mainGlobals "_law_draw" = some (some (.ref f_draw)))
    (lk_draw : K.lookup f_draw = some ⟨oc_draw, od_draw, .func (PySem.W.fnOf "_law_draw" "_law_draw" (defArgs s_draw) (defBody s_draw) (defScope s_draw) .none kV_draw dc_draw pm_draw an_draw cd_draw ct_draw), sl_draw⟩)
    (cq_draw : PySem.W.codeIn K cd_draw "_law_draw" = true)
    (k_draw : PySem.W.keepIn K (.ref f_draw) = true)
    (a_Lis_integer : PySem.W.nsIn K mainGlobals "_law_is_integer" = some (some (.ref f_Lis_integer)))
    (lk_Lis_integer : K.lookup f_Lis_integer = some ⟨oc_Lis_integer, od_Lis_integer, .func (PySem.W.fnOf "_law_is_integer" "_law_is_integer" (defArgs l_is_integer) (defBody l_is_integer) (defScope l_is_integer) .none kV_Lis_integer dc_Lis_integer pm_Lis_integer an_Lis_integer cd_Lis_integer ct_Lis_integer), sl_Lis_integer⟩)
    (cq_Lis_integer : PySem.W.codeIn K cd_Lis_integer "_law_is_integer" = true)
    (k_Lis_integer : PySem.W.keepIn K (.ref f_Lis_integer) = true)
    (a_Lrank : PySem.W.nsIn K mainGlobals "_law_rank" = some (some (.ref f_Lrank)))
    (lk_Lrank : K.lookup f_Lrank = some ⟨oc_Lrank, od_Lrank, .func (PySem.W.fnOf "_law_rank" "_law_rank" (defArgs l_rank) (defBody l_rank) (defScope l_rank) .none kV_Lrank dc_Lrank pm_Lrank an_Lrank cd_Lrank ct_Lrank), sl_Lrank⟩)
    (cq_Lrank : PySem.W.codeIn K cd_Lrank "_law_rank" = true)
    (k_Lrank : PySem.W.keepIn K (.ref f_Lrank) = true)
    (a_Lright : PySem.W.nsIn K mainGlobals "_law_right" = some (some (.ref f_Lright)))
    (lk_Lright : K.lookup f_Lright = some ⟨oc_Lright, od_Lright, .func (PySem.W.fnOf "_law_right" "_law_right" (defArgs l_right) (defBody l_right) (defScope l_right) .none kV_Lright dc_Lright pm_Lright an_Lright cd_Lright ct_Lright), sl_Lright⟩)
    (cq_Lright : PySem.W.codeIn K cd_Lright "_law_right" = true)
    (k_Lright : PySem.W.keepIn K (.ref f_Lright) = true)
    (a_Lrows : PySem.W.nsIn K mainGlobals "_law_rows" = some (some (.ref f_Lrows)))
    (lk_Lrows : K.lookup f_Lrows = some ⟨oc_Lrows, od_Lrows, .func (PySem.W.fnOf "_law_rows" "_law_rows" (defArgs l_rows) (defBody l_rows) (defScope l_rows) .none kV_Lrows dc_Lrows pm_Lrows an_Lrows cd_Lrows ct_Lrows), sl_Lrows⟩)
    (cq_Lrows : PySem.W.codeIn K cd_Lrows "_law_rows" = true)
    (k_Lrows : PySem.W.keepIn K (.ref f_Lrows) = true)
    (a_Lchange_length : PySem.W.nsIn K mainGlobals "_law_change_length" = some (some (.ref f_Lchange_length)))
    (lk_Lchange_length : K.lookup f_Lchange_length = some ⟨oc_Lchange_length, od_Lchange_length, .func (PySem.W.fnOf "_law_change_length" "_law_change_length" (defArgs l_change_length) (defBody l_change_length) (defScope l_change_length) .none kV_Lchange_length dc_Lchange_length pm_Lchange_length an_Lchange_length cd_Lchange_length ct_Lchange_length), sl_Lchange_length⟩)
    (cq_Lchange_length : PySem.W.codeIn K cd_Lchange_length "_law_change_length" = true)
    (k_Lchange_length : PySem.W.keepIn K (.ref f_Lchange_length) = true)
    (a_law : PySem.W.nsIn K mainGlobals "law" = some (some (.ref f_law)))
    (lk_law : K.lookup f_law = some ⟨oc_law, od_law, .func (PySem.W.fnOf "law" "law" (defArgs sLaw) (defBody sLaw) (defScope sLaw) .none kV_law dc_law pm_law an_law cd_law ct_law), sl_law⟩)
    (cq_law : PySem.W.codeIn K cd_law "law" = true)
    (k_law : PySem.W.keepIn K (.ref f_law) = true)
    (aONE : PySem.W.nsIn K mainGlobals "OneshardError" = some (some (.ref CONE)))
    (hdONE : PySem.W.hasDictIn K CONE = true)
    (tyONE : PySem.W.typeIn K (.ref CONE) = some (.type "type"))
    (sbONE : PySem.W.subIn K (.ref CBLth) (.ref CONE) = some true)
    (neONE : ¬ CBLth = CONE)
    (uha : PySem.W.findIn K (.ref CBLth) "__class__" = some (some (.builtin "object.__class__")))
    (uhn : PySem.W.specialIn K (.builtin "object.__class__") "__get__" = some (some (.builtin "getset_descriptor.__get__")))
    (uht : PySem.W.takesIn K (.builtin "object.__class__") = some true)
    (uhm : PySem.W.mroIn K CBLth (.type "object") = some true)
    (gcd_f : PySem.W.nsIn K mainGlobals "gcd" = some (some (.builtin "math.gcd")))
    (z_len : PySem.W.nsIn K mainGlobals "len" = some none)
    (z_int : PySem.W.nsIn K mainGlobals "int" = some none)
    (z_abs : PySem.W.nsIn K mainGlobals "abs" = some none)
    (z_max : PySem.W.nsIn K mainGlobals "max" = some none)
    (z_min : PySem.W.nsIn K mainGlobals "min" = some none)
    (z_sum : PySem.W.nsIn K mainGlobals "sum" = some none)
    (z_any : PySem.W.nsIn K mainGlobals "any" = some none)
    (z_all : PySem.W.nsIn K mainGlobals "all" = some none)
    (z_tuple : PySem.W.nsIn K mainGlobals "tuple" = some none)
    (z_list : PySem.W.nsIn K mainGlobals "list" = some none)
    (z_dict : PySem.W.nsIn K mainGlobals "dict" = some none)
    (z_set : PySem.W.nsIn K mainGlobals "set" = some none)
    (z_str : PySem.W.nsIn K mainGlobals "str" = some none)
    (z_bool : PySem.W.nsIn K mainGlobals "bool" = some none)
    (z_range : PySem.W.nsIn K mainGlobals "range" = some none)
    (z_enumerate : PySem.W.nsIn K mainGlobals "enumerate" = some none)
    (z_zip : PySem.W.nsIn K mainGlobals "zip" = some none)
    (z_sorted : PySem.W.nsIn K mainGlobals "sorted" = some none)
    (z_isinstance : PySem.W.nsIn K mainGlobals "isinstance" = some none)
    (z_divmod : PySem.W.nsIn K mainGlobals "divmod" = some none) :
    ∃ fd : FuncData, (∀ (s : Shared) (v : Value), BindsTo s fd ⟨[v], []⟩ [("_law_script", v)]) ∧ ∀ base : Heap, K.In base → base.Ns mainGlobals mg → FnOk l.prog w K mg base CX0 10 fa fd ["_law_script"] (OZ.spLaw K) := by
  have e := hfa.symm.trans (PySem.W.mg_of X G a_law)
  cases e
  have kit_0 : OZ.KitG K (.type "int") (.type "int") true := OZ.kit_selfV _
  have kit_1 : OZ.KitG K (.type "int") (.type "bool") false := OZ.kit_T kit1 rfl (by decide +kernel)
  have kit_2 : OZ.KitG K (.type "tuple") (.type "tuple") true := OZ.kit_selfV _
  have kit_3 : OZ.KitG K (.type "list") (.type "list") true := OZ.kit_selfV _
  have teOORge : PySem.W.exmOne K (.ref COORge) (.ref COORge) = some true := PySem.W.exm_ref exOORge ehOORge etOORge euOORge
  have xfOORge : XfC K COORge := ⟨egOORge, eGOORge, exOORge, ehOORge⟩
  have mEOORge : mg "OutOfRange" = some (.ref COORge) := PySem.W.mg_of X G eaOORge
  have UOORge : ErrC K mg "OutOfRange" COORge fOORge "value" := ⟨mEOORge, ⟨⟨nmOORge, qnOORge, NUOORge, bsOORge, _, snOORge, suOORge, abOORge, coOORge, ddOORge, k0OORge, k1OORge, k2OORge, k3OORge, k5OORge, eLOORge, rfl⟩, esOORge, exOORge, etOORge, ekOORge⟩, eiOORge, eTOORge, enOORge, xfOORge, teOORge⟩
  have FOORge := fun_mk (st := sOutOfRange_init) elOORge ecOORge efOORge
  have bOORge := FOORge.binds (ps := ["self", "value"]) fun _ _ _ _ _ _ us hl => match us, hl with | [_, _], _ => rfl
  have teBLth : PySem.W.exmOne K (.ref CBLth) (.ref CBLth) = some true := PySem.W.exm_ref exBLth ehBLth etBLth euBLth
  have xfBLth : XfC K CBLth := ⟨egBLth, eGBLth, exBLth, ehBLth⟩
  have mEBLth : mg "BadLength" = some (.ref CBLth) := PySem.W.mg_of X G eaBLth
  have UBLth : ErrC K mg "BadLength" CBLth fBLth "length" := ⟨mEBLth, ⟨⟨nmBLth, qnBLth, NUBLth, bsBLth, _, snBLth, suBLth, abBLth, coBLth, ddBLth, k0BLth, k1BLth, k2BLth, k3BLth, k5BLth, eLBLth, rfl⟩, esBLth, exBLth, etBLth, ekBLth⟩, eiBLth, eTBLth, enBLth, xfBLth, teBLth⟩
  have FBLth := fun_mk (st := sBadLength_init) elBLth ecBLth efBLth
  have bBLth := FBLth.binds (ps := ["self", "length"]) fun _ _ _ _ _ _ us hl => match us, hl with | [_, _], _ => rfl
  have F_common_divisor := fun_mk (st := s_common_divisor) lk_common_divisor cq_common_divisor k_common_divisor
  have b_common_divisor := F_common_divisor.binds (ps := ["first", "second"]) fun _ _ _ _ _ _ us hl => match us, hl with | [_, _], _ => rfl
  have m_common_divisor : mg "common_divisor" = some (.ref f_common_divisor) := PySem.W.mg_of X G a_common_divisor
  have F_common_multiple := fun_mk (st := s_common_multiple) lk_common_multiple cq_common_multiple k_common_multiple
  have b_common_multiple := F_common_multiple.binds (ps := ["numbers"]) fun _ _ _ _ _ _ us hl => match us, hl with | [_], _ => rfl
  have m_common_multiple : mg "common_multiple" = some (.ref f_common_multiple) := PySem.W.mg_of X G a_common_multiple
  have F_check_lengths := fun_mk (st := s_check_lengths) lk_check_lengths cq_check_lengths k_check_lengths
  have b_check_lengths := F_check_lengths.binds (ps := ["columns", "length"]) fun _ _ _ _ _ _ us hl => match us, hl with | [_, _], _ => rfl
  have m_check_lengths : mg "check_lengths" = some (.ref f_check_lengths) := PySem.W.mg_of X G a_check_lengths
  have F_shortened := fun_mk (st := s_shortened) lk_shortened cq_shortened k_shortened
  have b_shortened := F_shortened.binds (ps := ["row"]) fun _ _ _ _ _ _ us hl => match us, hl with | [_], _ => rfl
  have m_shortened : mg "shortened" = some (.ref f_shortened) := PySem.W.mg_of X G a_shortened
  have F_cleared := fun_mk (st := s_cleared) lk_cleared cq_cleared k_cleared
  have b_cleared := F_cleared.binds (ps := ["row", "known", "place"]) fun _ _ _ _ _ _ us hl => match us, hl with | [_, _, _], _ => rfl
  have m_cleared : mg "_cleared" = some (.ref f_cleared) := PySem.W.mg_of X G a_cleared
  have F_first_place := fun_mk (st := s_first_place) lk_first_place cq_first_place k_first_place
  have b_first_place := F_first_place.binds (ps := ["row"]) fun _ _ _ _ _ _ us hl => match us, hl with | [_], _ => rfl
  have m_first_place : mg "_first_place" = some (.ref f_first_place) := PySem.W.mg_of X G a_first_place
  have F_solved := fun_mk (st := s_solved) lk_solved cq_solved k_solved
  have b_solved := F_solved.binds (ps := ["rows"]) fun _ _ _ _ _ _ us hl => match us, hl with | [_], _ => rfl
  have m_solved : mg "_solved" = some (.ref f_solved) := PySem.W.mg_of X G a_solved
  have F_kernel_item := fun_mk (st := s_kernel_item) lk_kernel_item cq_kernel_item k_kernel_item
  have b_kernel_item := F_kernel_item.binds (ps := ["solved", "width", "free"]) fun _ _ _ _ _ _ us hl => match us, hl with | [_, _, _], _ => rfl
  have m_kernel_item : mg "_kernel_item" = some (.ref f_kernel_item) := PySem.W.mg_of X G a_kernel_item
  have F_kernel := fun_mk (st := s_kernel) lk_kernel cq_kernel k_kernel
  have b_kernel := F_kernel.binds (ps := ["rows", "width"]) fun _ _ _ _ _ _ us hl => match us, hl with | [_, _], _ => rfl
  have m_kernel : mg "kernel" = some (.ref f_kernel) := PySem.W.mg_of X G a_kernel
  have F_start := fun_mk (st := sStart) lk_start cq_start k_start
  have b_start := F_start.binds (ps := ["_law_script"]) fun _ _ _ _ _ _ us hl => match us, hl with | [_], _ => rfl
  have m_start : mg "_law_start" = some (.ref f_start) := PySem.W.mg_of X G a_start
  have F_draw := fun_mk (st := s_draw) lk_draw cq_draw k_draw
  have b_draw := F_draw.binds (ps := ["_law_state", "_law_size"]) fun _ _ _ _ _ _ us hl => match us, hl with | [_, _], _ => rfl
  have m_draw : mg "_law_draw" = some (.ref f_draw) := PySem.W.mg_of X G a_draw
  have F_Lis_integer := fun_mk (st := l_is_integer) lk_Lis_integer cq_Lis_integer k_Lis_integer
  have b_Lis_integer := F_Lis_integer.binds (ps := ["_law_actual"]) fun _ _ _ _ _ _ us hl => match us, hl with | [_], _ => rfl
  have m_Lis_integer : mg "_law_is_integer" = some (.ref f_Lis_integer) := PySem.W.mg_of X G a_Lis_integer
  have F_Lrank := fun_mk (st := l_rank) lk_Lrank cq_Lrank k_Lrank
  have b_Lrank := F_Lrank.binds (ps := ["_law_table", "_law_size"]) fun _ _ _ _ _ _ us hl => match us, hl with | [_, _], _ => rfl
  have m_Lrank : mg "_law_rank" = some (.ref f_Lrank) := PySem.W.mg_of X G a_Lrank
  have F_Lright := fun_mk (st := l_right) lk_Lright cq_Lright k_Lright
  have b_Lright := F_Lright.binds (ps := ["_law_table", "_law_size", "_law_actual"]) fun _ _ _ _ _ _ us hl => match us, hl with | [_, _, _], _ => rfl
  have m_Lright : mg "_law_right" = some (.ref f_Lright) := PySem.W.mg_of X G a_Lright
  have F_Lrows := fun_mk (st := l_rows) lk_Lrows cq_Lrows k_Lrows
  have b_Lrows := F_Lrows.binds (ps := ["_law_state", "_law_count", "_law_size"]) fun _ _ _ _ _ _ us hl => match us, hl with | [_, _, _], _ => rfl
  have m_Lrows : mg "_law_rows" = some (.ref f_Lrows) := PySem.W.mg_of X G a_Lrows
  have F_Lchange_length := fun_mk (st := l_change_length) lk_Lchange_length cq_Lchange_length k_Lchange_length
  have b_Lchange_length := F_Lchange_length.binds (ps := ["_law_state", "_law_row"]) fun _ _ _ _ _ _ us hl => match us, hl with | [_, _], _ => rfl
  have m_Lchange_length : mg "_law_change_length" = some (.ref f_Lchange_length) := PySem.W.mg_of X G a_Lchange_length
  have F_law := fun_mk (st := sLaw) lk_law cq_law k_law
  have mz_len := PySem.W.mg_none_of X G z_len
  have mz_int := PySem.W.mg_none_of X G z_int
  have mz_abs := PySem.W.mg_none_of X G z_abs
  have mz_max := PySem.W.mg_none_of X G z_max
  have mz_min := PySem.W.mg_none_of X G z_min
  have mz_sum := PySem.W.mg_none_of X G z_sum
  have mz_any := PySem.W.mg_none_of X G z_any
  have mz_all := PySem.W.mg_none_of X G z_all
  have mz_tuple := PySem.W.mg_none_of X G z_tuple
  have mz_list := PySem.W.mg_none_of X G z_list
  have mz_dict := PySem.W.mg_none_of X G z_dict
  have mz_set := PySem.W.mg_none_of X G z_set
  have mz_str := PySem.W.mg_none_of X G z_str
  have mz_bool := PySem.W.mg_none_of X G z_bool
  have mz_range := PySem.W.mg_none_of X G z_range
  have mz_enumerate := PySem.W.mg_none_of X G z_enumerate
  have mz_zip := PySem.W.mg_none_of X G z_zip
  have mz_sorted := PySem.W.mg_none_of X G z_sorted
  have mz_isinstance := PySem.W.mg_none_of X G z_isinstance
  have mz_divmod := PySem.W.mg_none_of X G z_divmod
  refine ⟨PySem.W.fnOf "law" "law" (defArgs sLaw) (defBody sLaw) (defScope sLaw) .none kV_law dc_law pm_law an_law cd_law ct_law, fun s v => .of_eq rfl, fun base _ _ => ?_⟩
  have T : OZ.Bn (⟨l.prog, w, K, mg, base⟩ : OZ.Bd) := ⟨mz_len, mz_int, mz_abs, mz_max, mz_min, mz_sum, mz_any, mz_all, mz_tuple, mz_list, mz_dict, mz_set, mz_str, mz_bool, mz_range, mz_enumerate, mz_zip, mz_sorted, mz_isinstance, mz_divmod⟩
  have T0 : BiD mg := ⟨mz_len, mz_int, mz_abs, mz_list⟩
  have EOORge : OZ.ErrG (⟨l.prog, w, K, mg, base⟩ : OZ.Bd) 1 "OutOfRange" COORge "value" := ⟨_, _, _, UOORge, OZ.errInit FOORge c_sOutOfRange_init rfl rfl rfl UOORge, bOORge⟩
  have EBLth : OZ.ErrG (⟨l.prog, w, K, mg, base⟩ : OZ.Bd) 1 "BadLength" CBLth "length" := ⟨_, _, _, UBLth, OZ.errInit FBLth c_sBadLength_init rfl rfl rfl UBLth, bBLth⟩
  have XOORge : OZ.ErrX (⟨l.prog, w, K, mg, base⟩ : OZ.Bd) COORge "value" := ⟨xfOORge, enOORge⟩
  have XBLth : OZ.ErrX (⟨l.prog, w, K, mg, base⟩ : OZ.Bd) CBLth "length" := ⟨xfBLth, enBLth⟩
  have m_ONE : mg "OneshardError" = some (.ref CONE) := PySem.W.mg_of X G aONE
  have XE : ExcC K CBLth := ⟨egBLth, eGBLth, exBLth, ehBLth, uha, uhn, uht, uhm⟩
  have kO : OZ.KitG K (.ref CBLth) (.ref CONE) true := OZ.kit_E hdONE tyONE sbONE (by simpa using neONE)
  have m_gcd : mg "gcd" = some (.builtin "math.gcd") := PySem.W.mg_of X G gcd_f
  have C_common_divisor : OZ.CallG OZ.pureM (⟨l.prog, w, K, mg, base⟩ : OZ.Bd) 1 "common_divisor" 2 (FCDiv) := ⟨_, m_common_divisor, k_common_divisor, (by apply cdiv_ok (B := (⟨l.prog, w, K, mg, base⟩ : OZ.Bd)) F_common_divisor b_common_divisor <;> first | assumption | rfl)⟩
  have C_common_multiple : OZ.CallG OZ.pureM (⟨l.prog, w, K, mg, base⟩ : OZ.Bd) 2 "common_multiple" 1 (FCMul) := ⟨_, m_common_multiple, k_common_multiple, (by apply cmul_ok (B := (⟨l.prog, w, K, mg, base⟩ : OZ.Bd)) F_common_multiple b_common_multiple <;> first | assumption | rfl)⟩
  have C_check_lengths : OZ.CallG OZ.pureM (⟨l.prog, w, K, mg, base⟩ : OZ.Bd) 3 "check_lengths" 2 (FCheckLen CBLth) := ⟨_, m_check_lengths, k_check_lengths, (by apply checkLen_ok (B := (⟨l.prog, w, K, mg, base⟩ : OZ.Bd)) F_check_lengths b_check_lengths <;> first | assumption | rfl)⟩
  have C_shortened : OZ.CallG OZ.pureM (⟨l.prog, w, K, mg, base⟩ : OZ.Bd) 2 "shortened" 1 (FShort) := ⟨_, m_shortened, k_shortened, (by apply short_ok (B := (⟨l.prog, w, K, mg, base⟩ : OZ.Bd)) F_shortened b_shortened <;> first | assumption | rfl)⟩
  have C_cleared : OZ.CallG OZ.pureM (⟨l.prog, w, K, mg, base⟩ : OZ.Bd) 3 "_cleared" 3 (FClear) := ⟨_, m_cleared, k_cleared, (by apply clear_ok (B := (⟨l.prog, w, K, mg, base⟩ : OZ.Bd)) F_cleared b_cleared <;> first | assumption | rfl)⟩
  have C_first_place : OZ.CallG OZ.pureM (⟨l.prog, w, K, mg, base⟩ : OZ.Bd) 1 "_first_place" 1 (FFirst) := ⟨_, m_first_place, k_first_place, (by apply first_ok (B := (⟨l.prog, w, K, mg, base⟩ : OZ.Bd)) F_first_place b_first_place <;> first | assumption | rfl)⟩
  have C_solved : OZ.CallG OZ.pureM (⟨l.prog, w, K, mg, base⟩ : OZ.Bd) 4 "_solved" 1 (FSolved) := ⟨_, m_solved, k_solved, (by apply solved_ok (B := (⟨l.prog, w, K, mg, base⟩ : OZ.Bd)) F_solved b_solved <;> first | assumption | rfl)⟩
  have C_kernel_item : OZ.CallG OZ.pureM (⟨l.prog, w, K, mg, base⟩ : OZ.Bd) 3 "_kernel_item" 3 (FKItem) := ⟨_, m_kernel_item, k_kernel_item, (by apply kitem_ok (B := (⟨l.prog, w, K, mg, base⟩ : OZ.Bd)) F_kernel_item b_kernel_item <;> first | assumption | rfl)⟩
  have RN_kernel : FnOk l.prog w K mg base (L2.CX l.prog w) 5 f_kernel (PySem.W.fnOf "kernel" "kernel" (defArgs s_kernel) (defBody s_kernel) (defScope s_kernel) .none kV_kernel dc_kernel pm_kernel an_kernel cd_kernel ct_kernel) ["rows", "width"] (OZ.spDN OZ.pureM K 2 (FKern CBLth)) := by apply kernN_ok (B := (⟨l.prog, w, K, mg, base⟩ : OZ.Bd)) F_kernel <;> first | assumption | rfl
  have RO_kernel : FnOk l.prog w K mg base (L2.CX l.prog w) 5 f_kernel (PySem.W.fnOf "kernel" "kernel" (defArgs s_kernel) (defBody s_kernel) (defScope s_kernel) .none kV_kernel dc_kernel pm_kernel an_kernel cd_kernel ct_kernel) ["rows", "width"] (OZ.spD OZ.pureM K 2 (FKern CBLth)) := OZ.fnOk_toD (FKern.nd CBLth) RN_kernel
  have CN_kernel : OZ.CallGN OZ.pureM (⟨l.prog, w, K, mg, base⟩ : OZ.Bd) 5 "kernel" 2 (FKern CBLth) := ⟨_, m_kernel, k_kernel, _, _, _, RN_kernel, b_kernel, .inr rfl, rfl⟩
  have kbkrk : L2.KBn K _ ["rows", "width"] 0 ["width", "rows"] (fun us ws => (ws.drop 1).take 1 ++ (ws.drop 0).take 1) (fun us ws => (ws.drop 1).take 1 ++ (ws.drop 0).take 1) := kw_plain F_kernel (fun _ _ _ _ _ _ us ws h1 h2 => match us, ws, h1, h2 with | [], [_, _], _, _ => rfl) (fun r1 r4 => (((r4.drop 1).take 1)).append ((r4.drop 0).take 1))
  have CK_kernel : OZ.CallGK OZ.pureM (⟨l.prog, w, K, mg, base⟩ : OZ.Bd) 5 "kernel" 0 ["width", "rows"] (fun _ es => (es.drop 1).take 1 ++ (es.drop 0).take 1) (FKern CBLth) := ⟨_, m_kernel, k_kernel, OZ.FnK.kw RO_kernel (.inr rfl) kbkrk fun G vs zs ds es r1 r2 h1 h2 => ⟨(((r2.drop 1).take 1)).append ((r2.drop 0).take 1), by simp [h1, h2]⟩⟩
  have C_Lis_integer : OZ.CallG OZ.pureM (⟨l.prog, w, K, mg, base⟩ : OZ.Bd) 1 "_law_is_integer" 1 (FIsInt) := ⟨_, m_Lis_integer, k_Lis_integer, (by apply isint_ok (B := (⟨l.prog, w, K, mg, base⟩ : OZ.Bd)) F_Lis_integer b_Lis_integer <;> first | assumption | rfl)⟩
  have CC_Lis_integer : OZ.CallGC OZ.pureM (⟨l.prog, w, K, mg, base⟩ : OZ.Bd) 1 "_law_is_integer" 1 (FIsInt) := ⟨_, m_Lis_integer, k_Lis_integer, (by apply isintC_ok (B := (⟨l.prog, w, K, mg, base⟩ : OZ.Bd)) F_Lis_integer b_Lis_integer <;> first | assumption | rfl)⟩
  have C_Lrank : OZ.CallG OZ.pureM (⟨l.prog, w, K, mg, base⟩ : OZ.Bd) 1 "_law_rank" 2 (FRank) := ⟨_, m_Lrank, k_Lrank, (by apply rank_ok (B := (⟨l.prog, w, K, mg, base⟩ : OZ.Bd)) F_Lrank b_Lrank <;> first | assumption | rfl)⟩
  have C_Lright : OZ.CallG OZ.pureM (⟨l.prog, w, K, mg, base⟩ : OZ.Bd) 2 "_law_right" 3 (FRight) := ⟨_, m_Lright, k_Lright, (by apply right_ok (B := (⟨l.prog, w, K, mg, base⟩ : OZ.Bd)) F_Lright b_Lright <;> first | assumption | rfl)⟩
  have C_draw := fun st => draw_ok (B := (⟨l.prog, w, K, mg, base⟩ : OZ.Bd)) (st := st) F_draw T0 m_draw b_draw
  have C_Lrows : ∀ st, OZ.CallGN (drawM st) (⟨l.prog, w, K, mg, base⟩ : OZ.Bd) 2 "_law_rows" 3 (FRowsD st) := fun st => ⟨_, m_Lrows, k_Lrows, (by have := C_draw st; apply rowsd_ok (B := (⟨l.prog, w, K, mg, base⟩ : OZ.Bd)) F_Lrows b_Lrows <;> first | assumption | rfl)⟩
  have C_Lchange_length : ∀ st, OZ.CallG (drawM st) (⟨l.prog, w, K, mg, base⟩ : OZ.Bd) 2 "_law_change_length" 2 (FChg st) := fun st => ⟨_, m_Lchange_length, k_Lchange_length, (by have := C_draw st; apply chg_ok (B := (⟨l.prog, w, K, mg, base⟩ : OZ.Bd)) F_Lchange_length b_Lchange_length <;> first | assumption | rfl)⟩
  apply law_ok (B := (⟨l.prog, w, K, mg, base⟩ : OZ.Bd)) F_law <;> first | assumption | rfl | exact ok_startD F_start T0
theorem walk {l : PySem.W.OpenLaw} {q : Program} {loose : List Str} {XP : (Str → Option Value) → Heap → Prop} {YP : World → Heap → Prop} {d : DefRec} {K : Params → PySem.W.Frag} (hn : l.most = some 63) (hdf : d.params.defaults = [])
    (hY : ∀ (w : World) (h : Heap), YP w h → (K w.params).In h)
    (F : ∀ (w : World) (mg : Str → Option Value) (fa : Addr) (h : Heap), (K w.params).In h → h.Ns mainGlobals mg → mg d.name = some (.ref fa) →
      ∃ fd : FuncData, (∀ (s : Shared) (u : Value), BindsTo s fd ⟨[u], []⟩ [("_law_script", u)]) ∧ ∀ base : Heap, (K w.params).In base → base.Ns mainGlobals mg → FnOk l.prog w (K w.params) mg base CX0 10 fa fd ["_law_script"] (OZ.spLaw (K w.params))) :
    PySem.W.WalkO q loose XP YP l.row.toRowW d [] (fun f vs => PySem.call f vs) :=
  L2.walk_of (n := 63) (k := 10) (x := "_law_script") (CX := fun _ => CX0) (sp := fun w => OZ.spLaw (K w.params)) hn (by decide) hdf ⟨rfl, by decide, by decide⟩ hY F (fun _ _ a ns hl _ hS => ⟨a, ns, rfl, hS, hl, fun _ => rfl⟩) fun _ _ _ _ _ z => z
end OS
open PySem PySem.W PyProof.Rows
set_option maxRecDepth 100000 in
set_option maxHeartbeats 0 in
theorem PySem.Challenge.cw_oneshard_k23_whole_kernel_holds : PySem.Challenge.rw_oneshard_k23_whole_kernel.Holds := by
  w_on; o_law; k_head; (case hw => w_witness2)
  k_fill
  refine OS.walk (l := PySem.Challenge.rw_oneshard_k23_whole_kernel) rfl rfl (fun w h Y => PySem.W.kIn_of Y) ?F
  case F =>
    intro w mg fa h KX G hmg
    refine' OS.all_mk KX G hmg ?kit1 ?eaOORge ?eLOORge ?esOORge ?exOORge ?etOORge ?ekOORge ?eiOORge ?eTOORge ?enOORge ?egOORge ?eGOORge ?ehOORge ?euOORge ?elOORge ?ecOORge ?efOORge ?eaBLth ?eLBLth ?esBLth ?exBLth ?etBLth ?ekBLth ?eiBLth ?eTBLth ?enBLth ?egBLth ?eGBLth ?ehBLth ?euBLth ?elBLth ?ecBLth ?efBLth ?a_common_divisor ?lk_common_divisor ?cq_common_divisor ?k_common_divisor ?a_common_multiple ?lk_common_multiple ?cq_common_multiple ?k_common_multiple ?a_check_lengths ?lk_check_lengths ?cq_check_lengths ?k_check_lengths ?a_shortened ?lk_shortened ?cq_shortened ?k_shortened ?a_cleared ?lk_cleared ?cq_cleared ?k_cleared ?a_first_place ?lk_first_place ?cq_first_place ?k_first_place ?a_solved ?lk_solved ?cq_solved ?k_solved ?a_kernel_item ?lk_kernel_item ?cq_kernel_item ?k_kernel_item ?a_kernel ?lk_kernel ?cq_kernel ?k_kernel ?a_start ?lk_start ?cq_start ?k_start ?a_draw ?lk_draw ?cq_draw ?k_draw ?a_Lis_integer ?lk_Lis_integer ?cq_Lis_integer ?k_Lis_integer ?a_Lrank ?lk_Lrank ?cq_Lrank ?k_Lrank ?a_Lright ?lk_Lright ?cq_Lright ?k_Lright ?a_Lrows ?lk_Lrows ?cq_Lrows ?k_Lrows ?a_Lchange_length ?lk_Lchange_length ?cq_Lchange_length ?k_Lchange_length ?a_law ?lk_law ?cq_law ?k_law ?aONE ?hdONE ?tyONE ?sbONE ?neONE ?uha ?uhn ?uht ?uhm ?gcd_f ?z_len ?z_int ?z_abs ?z_max ?z_min ?z_sum ?z_any ?z_all ?z_tuple ?z_list ?z_dict ?z_set ?z_str ?z_bool ?z_range ?z_enumerate ?z_zip ?z_sorted ?z_isinstance ?z_divmod
    (case kit1 => k_is)
    (case eaOORge => k_is)
    (case eLOORge => k_is)
    (case esOORge => k_is)
    (case exOORge => k_is)
    (case etOORge => k_is)
    (case ekOORge => k_is)
    (case eiOORge => k_is)
    (case eTOORge => k_is)
    (case enOORge => k_is)
    (case egOORge => k_is)
    (case eGOORge => k_is)
    (case ehOORge => k_is)
    (case euOORge => k_is)
    (case elOORge => k_is)
    (case ecOORge => k_is)
    (case efOORge => k_is)
    (case eaBLth => k_is)
    (case eLBLth => k_is)
    (case esBLth => k_is)
    (case exBLth => k_is)
    (case etBLth => k_is)
    (case ekBLth => k_is)
    (case eiBLth => k_is)
    (case eTBLth => k_is)
    (case enBLth => k_is)
    (case egBLth => k_is)
    (case eGBLth => k_is)
    (case ehBLth => k_is)
    (case euBLth => k_is)
    (case elBLth => k_is)
    (case ecBLth => k_is)
    (case efBLth => k_is)
    (case a_common_divisor => k_is)
    (case lk_common_divisor => k_is)
    (case cq_common_divisor => k_is)
    (case k_common_divisor => k_is)
    (case a_common_multiple => k_is)
    (case lk_common_multiple => k_is)
    (case cq_common_multiple => k_is)
    (case k_common_multiple => k_is)
    (case a_check_lengths => k_is)
    (case lk_check_lengths => k_is)
    (case cq_check_lengths => k_is)
    (case k_check_lengths => k_is)
    (case a_shortened => k_is)
    (case lk_shortened => k_is)
    (case cq_shortened => k_is)
    (case k_shortened => k_is)
    (case a_cleared => k_is)
    (case lk_cleared => k_is)
    (case cq_cleared => k_is)
    (case k_cleared => k_is)
    (case a_first_place => k_is)
    (case lk_first_place => k_is)
    (case cq_first_place => k_is)
    (case k_first_place => k_is)
    (case a_solved => k_is)
    (case lk_solved => k_is)
    (case cq_solved => k_is)
    (case k_solved => k_is)
    (case a_kernel_item => k_is)
    (case lk_kernel_item => k_is)
    (case cq_kernel_item => k_is)
    (case k_kernel_item => k_is)
    (case a_kernel => k_is)
    (case lk_kernel => k_is)
    (case cq_kernel => k_is)
    (case k_kernel => k_is)
    (case a_start => k_is)
    (case lk_start => k_is)
    (case cq_start => k_is)
    (case k_start => k_is)
    (case a_draw => k_is)
    (case lk_draw => k_is)
    (case cq_draw => k_is)
    (case k_draw => k_is)
    (case a_Lis_integer => k_is)
    (case lk_Lis_integer => k_is)
    (case cq_Lis_integer => k_is)
    (case k_Lis_integer => k_is)
    (case a_Lrank => k_is)
    (case lk_Lrank => k_is)
    (case cq_Lrank => k_is)
    (case k_Lrank => k_is)
    (case a_Lright => k_is)
    (case lk_Lright => k_is)
    (case cq_Lright => k_is)
    (case k_Lright => k_is)
    (case a_Lrows => k_is)
    (case lk_Lrows => k_is)
    (case cq_Lrows => k_is)
    (case k_Lrows => k_is)
    (case a_Lchange_length => k_is)
    (case lk_Lchange_length => k_is)
    (case cq_Lchange_length => k_is)
    (case k_Lchange_length => k_is)
    (case a_law => k_is)
    (case lk_law => k_is)
    (case cq_law => k_is)
    (case k_law => k_is)
    (case aONE => k_is)
    (case hdONE => k_is)
    (case tyONE => k_is)
    (case sbONE => k_is)
    (case neONE => decide)
    (case uha => k_is)
    (case uhn => k_is)
    (case uht => k_is)
    (case uhm => k_is)
    (case gcd_f => k_is)
    (case z_len => k_is)
    (case z_int => k_is)
    (case z_abs => k_is)
    (case z_max => k_is)
    (case z_min => k_is)
    (case z_sum => k_is)
    (case z_any => k_is)
    (case z_all => k_is)
    (case z_tuple => k_is)
    (case z_list => k_is)
    (case z_dict => k_is)
    (case z_set => k_is)
    (case z_str => k_is)
    (case z_bool => k_is)
    (case z_range => k_is)
    (case z_enumerate => k_is)
    (case z_zip => k_is)
    (case z_sorted => k_is)
    (case z_isinstance => k_is)
    (case z_divmod => k_is)
#print axioms PySem.Challenge.cw_oneshard_k23_whole_kernel_holds


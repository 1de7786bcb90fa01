import PyProof.Rows.All
import Wide.All
import OpenK.AllK
import Wide.FinOn
import HandS.Evl
import HandS.ForMost
import HandS.IsInst
import HandS.Zip
import HandS.Wide
import HandS.TupMul
import HandS.EndBits
import HandS.Steps
import HandS.SetFor
import HandS.Strs
import HandS.DictComp
import HandS.SetKeys
import HandS.Deep
import KE.GoesMore
import KE.GoesEnum
import KE.DataCmp
import KE.SortData
import HandS.Lambda
import HandS.Style
import HandS.EndTab
import KE.SortKeyHeap
import HandS.SortKw
import HandS.EndOwn
import KE.KDictPairs
import KE.KDictCopyH
import KE.DatumOrd
import HandS.More
import HandS.HeadHook3
import HandS.TupLen
import HandS.RepeatKit
import PyProof.TupleOfSeq
import HandS.TupAny
import PyProof.P3In
import PySem.Challenge.RW_commonage_k11_papers_that_are_right
set_option Elab.async false
set_option linter.all false
set_option maxRecDepth 100000
set_option maxHeartbeats 4000000
namespace G
open PySem PySem.Spec PyProof.Rows L2
open Evl (Ex ex_rd ex_l ex_t rMax2)
theorem ex_none {H H' : Hp} {p : Addr} (e : Ex H H') (h : H' p = none) : H p = none := Evl.fresh_back e h
section
variable {K : PySem.W.Frag} {H H' : Hp}
mutual
theorem dpx (e : Ex H H') : ∀ {v : V} {d : PyData}, Dp K H v d → Dp K H' v d
  | _, _, .non => .non
  | _, _, .bl b => .bl b
  | _, _, .int i => .int i
  | _, _, .str x => .str x
  | _, _, .lst h a => .lst (ex_l e h) (dpax e a)
  | _, _, .tup h a => .tup (ex_t e h) (dpax e a)
theorem dpax (e : Ex H H') : ∀ {vs : List V} {ds : List PyData}, DpAll K H vs ds → DpAll K H' vs ds
  | _, _, .nil => .nil
  | _, _, .cons h t => .cons (dpx e h) (dpax e t)
end
theorem dpa_len : ∀ {vs : List V} {ds : List PyData}, DpAll K H vs ds → vs.length = ds.length
  | _, _, .nil => rfl
  | _, _, .cons _ t => congrArg (· + 1) (dpa_len t)
theorem dpa_get : ∀ {vs : List V} {ds : List PyData} {i : Nat} {d : PyData}, DpAll K H vs ds → ds[i]? = some d → ∃ v, vs[i]? = some v ∧ Dp K H v d
  | _, _, _, _, .nil, e => by simp at e
  | _, _, 0, _, .cons r _, e => by simp at e; subst e; exact ⟨_, rfl, r⟩
  | _, _, i + 1, d, .cons _ t, e => by
    obtain ⟨u, h1, h2⟩ := dpa_get (i := i) (d := d) t (by simpa using e)
    exact ⟨u, by simpa using h1, h2⟩
theorem dpa_app : ∀ {vs ws : List V} {ds es : List PyData}, DpAll K H vs ds → DpAll K H ws es → DpAll K H (vs ++ ws) (ds ++ es)
  | _, _, _, _, .nil, s => s
  | _, _, _, _, .cons r t, s => .cons r (dpa_app t s)
theorem dpa_set {v : V} {d : PyData} (r : Dp K H v d) : ∀ {vs : List V} {ds : List PyData} (i : Nat), DpAll K H vs ds → DpAll K H (vs.set i v) (ds.set i d)
  | _, _, _, .nil => .nil
  | _, _, 0, .cons _ t => .cons r t
  | _, _, i + 1, .cons q t => .cons q (dpa_set r i t)
theorem dpa_ints : ∀ {xs : List Int}, DpAll K H (xs.map V.int) (xs.map PyData.int)
  | [] => .nil
  | x :: xs => .cons (.int x) (dpa_ints)
end
/-! ### slots -/
inductive Sl where
  | no
  | dat (d : PyData)
  | ownq (z : Option Addr) (ds : List PyData)
abbrev Sl.own (ds : List PyData) : Sl := .ownq none ds
abbrev Sl.int (i : Int) : Sl := .dat (.int i)
abbrev Sl.bl (b : Bool) : Sl := .dat (.bool b)
inductive Has (K : PySem.W.Frag) (C H : Hp) : List Sl → L2.St → List Addr → Prop
  | nil : Has K C H [] [] []
  | no {Γ : List Sl} {σ : L2.St} {ps : List Addr} {x : Option V} : Has K C H Γ σ ps → Has K C H (.no :: Γ) (x :: σ) ps
  | dat {Γ : List Sl} {σ : L2.St} {ps : List Addr} {v : V} {d : PyData} : Dp K C v d → Has K C H Γ σ ps → Has K C H (.dat d :: Γ) (some v :: σ) ps
  | own {Γ : List Sl} {σ : L2.St} {ps : List Addr} {p : Addr} {vs : List V} {ds : List PyData} {z : Option Addr} : (∀ r, z = some r → r = p) → H p = some (.lst vs) → DpAll K C vs ds → Has K C H Γ σ ps → Has K C H (.ownq z ds :: Γ) (some (.ref p) :: σ) (p :: ps)
section
variable {K : PySem.W.Frag} {C C' H H' : Hp} {Γ : List Sl} {σ : L2.St} {ps : List Addr}
theorem Has.own_some (h : Has K C H Γ σ ps) : ∀ p ∈ ps, ∃ xs, H p = some (.lst xs) := by
  induction h with
  | nil => intro p hp; cases hp
  | no _ ih => exact ih
  | dat _ _ ih => exact ih
  | own _ e _ _ ih =>
    intro p hp
    rcases List.mem_cons.mp hp with rfl | hp
    · exact ⟨_, e⟩
    · exact ih p hp
theorem Has.mono (h : Has K C H Γ σ ps) (e : Ex C C') (f : ∀ p ∈ ps, ∀ o, H p = some o → H' p = some o) : Has K C' H' Γ σ ps := by
  induction h with
  | nil => exact .nil
  | no _ ih => exact .no (ih f)
  | dat d _ ih => exact .dat (dpx e d) (ih f)
  | own y q d _ ih => exact .own y (f _ List.mem_cons_self _ q) (dpax e d) (ih fun p hp => f p (List.mem_cons_of_mem _ hp))
theorem Has.len (h : Has K C H Γ σ ps) : Γ.length = σ.length := by
  induction h with
  | nil => rfl
  | no _ ih => simp [ih]
  | dat _ _ ih => simp [ih]
  | own _ _ _ _ ih => simp [ih]
theorem Has.get_dat (h : Has K C H Γ σ ps) : ∀ {i : Nat} {d : PyData}, Γ[i]? = some (.dat d) → ∃ v, σ[i]? = some (some v) ∧ Dp K C v d := by
  induction h with
  | nil => intro i d e; simp at e
  | no _ ih => intro i d e; cases i with
    | zero => simp at e
    | succ i => exact ih (by simpa using e)
  | dat q _ ih => intro i d e; cases i with
    | zero => simp at e; subst e; exact ⟨_, rfl, q⟩
    | succ i => exact ih (by simpa using e)
  | own _ _ _ _ ih => intro i d e; cases i with
    | zero => simp at e
    | succ i => exact ih (by simpa using e)
/-- a slot is given another content -/
theorem Has.set {s : Sl} {x : Option V} {rs : List Addr} (h : Has K C H Γ σ ps) (r : Has K C H [s] [x] rs) : ∀ (i : Nat), ∃ qs, Has K C H (Γ.set i s) (σ.set i x) qs ∧ (∀ p ∈ qs, p ∈ rs ∨ p ∈ ps) ∧ ((rs ++ ps).Nodup → qs.Nodup) := by
  have keep : ∀ {Γ : List Sl} {σ : L2.St} {ps : List Addr}, Has K C H Γ σ ps → ∃ qs, Has K C H (s :: Γ) (x :: σ) qs ∧ qs = rs ++ ps := by
    intro Γ σ ps q
    cases r with
    | no r => cases r; exact ⟨_, .no q, rfl⟩
    | dat d r => cases r; exact ⟨_, .dat d q, rfl⟩
    | own y e d r => cases r; exact ⟨_, .own y e d q, rfl⟩
  induction h with
  | nil => intro i; exact ⟨[], .nil, (fun p hp => by cases hp), fun _ => List.nodup_nil⟩
  | no q ih => intro i; cases i with
    | zero => obtain ⟨qs, h1, rfl⟩ := keep q; exact ⟨_, h1, fun p hp => List.mem_append.mp hp, fun n => n⟩
    | succ i => obtain ⟨qs, h1, h2, h3⟩ := ih i; exact ⟨qs, .no h1, h2, h3⟩
  | dat d q ih => intro i; cases i with
    | zero => obtain ⟨qs, h1, rfl⟩ := keep q; exact ⟨_, h1, fun p hp => List.mem_append.mp hp, fun n => n⟩
    | succ i => obtain ⟨qs, h1, h2, h3⟩ := ih i; exact ⟨qs, .dat d h1, h2, h3⟩
  | own y e d q ih => intro i; cases i with
    | zero =>
      obtain ⟨qs, h1, rfl⟩ := keep q
      refine ⟨_, h1, fun p hp => ?_, fun n => ?_⟩
      · rcases List.mem_append.mp hp with z | z
        · exact .inl z
        · exact .inr (List.mem_cons_of_mem _ z)
      · exact n.sublist (List.Sublist.append_left (List.sublist_cons_self _ _) rs)
    | succ i =>
      obtain ⟨qs, h1, h2, h3⟩ := ih i
      refine ⟨_, .own y e d h1, fun p hp => ?_, fun n => ?_⟩
      · rcases List.mem_cons.mp hp with rfl | z
        · exact .inr List.mem_cons_self
        · rcases h2 p z with z | z
          · exact .inl z
          · exact .inr (List.mem_cons_of_mem _ z)
      · have n' := (List.perm_middle.nodup_iff).mp n
        refine List.nodup_cons.mpr ⟨fun hm => ?_, h3 (List.nodup_cons.mp n').2⟩
        rcases h2 _ hm with z | z
        · exact (List.nodup_cons.mp n').1 (List.mem_append_left _ z)
        · exact (List.nodup_cons.mp n').1 (List.mem_append_right _ z)
end
/-! ### the state: what is known of slots and heap -/
structure Bs where
  K : PySem.W.Frag
  H0 : Hp
  B : Hp
structure Cfg (b : Bs) (C H : Hp) (ps : List Addr) : Prop where
  bc : Ex b.B C
  ch : Ex C H
  h0 : Ex b.H0 H
  fr : ∀ a, b.H0 a ≠ none → b.B a = none → C a = none
  ow : ∀ p ∈ ps, C p = none ∧ b.H0 p = none
  nd : ps.Nodup
def HsC (b : Bs) (C : Hp) (T : List Sl) (τ : L2.St) (Γ : List Sl) (σ : L2.St) (H : Hp) : Prop := ∃ ps qs, Cfg b C H (ps ++ qs) ∧ Has b.K C H T τ ps ∧ Has b.K C H Γ σ qs
def Hs (b : Bs) (T : List Sl) (τ : L2.St) (Γ : List Sl) (σ : L2.St) (H : Hp) : Prop := ∃ C, HsC b C T τ Γ σ H
/-- from a heap H of which C is known: the value v, told by s, in H' -/
def Ret (K : PySem.W.Frag) (H C : Hp) (s : Sl) (v : V) (H' : Hp) : Prop :=
  ∃ C' ps, Ex C C' ∧ Ex C' H' ∧ Ex H H' ∧ (∀ a, H a ≠ none → C a = none → C' a = none) ∧ Has K C' H' [s] [some v] ps ∧ ∀ p ∈ ps, C' p = none ∧ H p = none
section
variable {K : PySem.W.Frag} {C H H' : Hp} {s : Sl} {v : V} {d : PyData} {ds : List PyData} {vs : List V} {p : Addr}
theorem Ret.same (e : Ex C H) (h : Dp K C v d) : Ret K H C (.dat d) v H := ⟨C, [], Ex.refl C, e, Ex.refl H, fun _ _ z => z, .dat h .nil, fun p hp => by cases hp⟩
theorem ret_fresh (hp : H p = none) {o : HO} (e : Ex C H) : Ex (upd C p o) (upd H p o) := fun a u h => by
  by_cases z : a = p
  · subst z; rw [upd_same] at h ⊢; exact h
  · rw [upd_ne z] at h ⊢; exact e a u h
theorem Ret.tup (e : Ex C H) (h : DpAll K C vs ds) (hp : H p = none) : Ret K H C (.dat (.tuple ds)) (.ref p) (upd H p (.tup vs)) := by
  have hc : C p = none := ex_none e hp
  refine ⟨upd C p (.tup vs), [], Ex.new hc, ret_fresh hp e, Ex.new hp, fun a z c => ?_, .dat (.tup (.inl (.inl upd_same)) (dpax (Ex.new hc) h)) .nil, fun p hp => by cases hp⟩
  rw [upd_ne (fun q => z (by rw [q]; exact hp))]; exact c
theorem Ret.lst (e : Ex C H) (h : DpAll K C vs ds) (hp : H p = none) : Ret K H C (.own ds) (.ref p) (upd H p (.lst vs)) :=
  ⟨C, [p], Ex.refl C, e.trans (Ex.new hp), Ex.new hp, fun _ _ z => z, .own (fun _ q => nomatch q) upd_same h .nil, fun q hq => by
    rcases List.mem_singleton.mp hq with rfl
    exact ⟨ex_none e hp, hp⟩⟩
theorem Ret.list (e : Ex C H) (h : DpAll K C vs ds) (hp : H p = none) : Ret K H C (.dat (.list ds)) (.ref p) (upd H p (.lst vs)) := by
  have hc : C p = none := ex_none e hp
  refine ⟨upd C p (.lst vs), [], Ex.new hc, ret_fresh hp e, Ex.new hp, fun a z c => ?_, .dat (.lst (.inl (.inl upd_same)) (dpax (Ex.new hc) h)) .nil, fun p hp => by cases hp⟩
  rw [upd_ne (fun q => z (by rw [q]; exact hp))]; exact c
theorem Ret.freeze {z : Option Addr} (r : Ret K H C (.ownq z ds) v H') : Ret K H C (.dat (.list ds)) v H' := by
  obtain ⟨C', ps, e1, e2, e3, fr, h, ow⟩ := r
  cases h with
  | own y e d r =>
    cases r
    rename_i q vs
    obtain ⟨o1, o2⟩ := ow q List.mem_cons_self
    refine ⟨upd C' q (.lst vs), [], e1.trans (Ex.new o1), fun a u h => ?_, e3, fun a z c => ?_, .dat (.lst (.inl (.inl upd_same)) (dpax (Ex.new o1) d)) .nil, fun p hp => by cases hp⟩
    · by_cases z : a = q
      · subst z; rw [upd_same] at h; cases h; exact e
      · rw [upd_ne z] at h; exact e2 a u h
    · rw [upd_ne (fun y => z (by rw [y]; exact o2))]; exact fr a z c
end
section
variable {b : Bs} {C : Hp} {T Γ Γ' Γ1 Γ2 : List Sl} {τ σ : L2.St} {H H' : Hp} {s s' : Sl} {v : V} {d e : PyData} {ds es : List PyData} {vs : List V}
theorem HsC.ch (h : HsC b C T τ Γ σ H) : Ex C H := by obtain ⟨ps, qs, c, _⟩ := h; exact c.ch
/-- a computation's result is put on the pile -/
theorem HsC.step (h : HsC b C T τ Γ σ H) (r : Ret b.K H C s v H') : Hs b (s :: T) (some v :: τ) Γ σ H' := by
  obtain ⟨ps, qs, c, h1, h2⟩ := h
  obtain ⟨C', rs, e1, e2, e3, fr, h3, ow⟩ := r
  have hsome : ∀ p ∈ ps ++ qs, ∃ xs, H p = some (.lst xs) := fun p hp => by
    rcases List.mem_append.mp hp with z | z
    · exact h1.own_some p z
    · exact h2.own_some p z
  have hT : Has b.K C' H' (s :: T) (some v :: τ) (rs ++ ps) := by
    have h1' := h1.mono e1 (fun p _ o q => e3 p o q)
    cases h3 with
    | no z => cases z; exact .no h1'
    | dat q z => cases z; exact .dat q h1'
    | own y q q2 z => cases z; exact .own y q q2 h1'
  refine ⟨C', rs ++ ps, qs, ⟨c.bc.trans e1, e2, c.h0.trans e3, fun a z y => ?_, fun p hp => ?_, ?_⟩, hT, h2.mono e1 (fun p _ o q => e3 p o q)⟩
  · refine fr a (fun q => ?_) (c.fr a z y)
    cases z1 : b.H0 a with
    | none => exact z z1
    | some o => rw [c.h0 a o z1] at q; cases q
  · rw [List.append_assoc] at hp
    rcases List.mem_append.mp hp with z | z
    · exact ⟨(ow p z).1, ex_none c.h0 (ow p z).2⟩
    · obtain ⟨xs, hx⟩ := hsome p z
      exact ⟨fr p (by rw [hx]; intro q; cases q) (c.ow p z).1, (c.ow p z).2⟩
  · rw [List.append_assoc]
    refine List.nodup_append.mpr ⟨?_, c.nd, fun p hp q hq e => ?_⟩
    · cases h3 with
      | no z => cases z; exact List.nodup_nil
      | dat _ z => cases z; exact List.nodup_nil
      | own _ _ _ z => cases z; simp
    · subst e
      obtain ⟨xs, hx⟩ := hsome p hq
      rw [(ow p hp).2] at hx; cases hx
theorem HsC.sub {T' : List Sl} {τ' : L2.St} {ps' qs' : List Addr} (c : Cfg b C H ps') (h1 : Has b.K C H T' τ' qs') (h2 : ∀ p ∈ qs', p ∈ ps') (h3 : qs'.Nodup) : Cfg b C H qs' :=
  ⟨c.bc, c.ch, c.h0, c.fr, fun p hp => c.ow p (h2 p hp), h3⟩
theorem Cfg.sub {ps' qs' : List Addr} (c : Cfg b C H ps') (h2 : ∀ p ∈ qs', p ∈ ps') (h3 : qs'.Nodup) : Cfg b C H qs' :=
  ⟨c.bc, c.ch, c.h0, c.fr, fun p hp => c.ow p (h2 p hp), h3⟩
/-- the top of the pile is read, data -/
theorem HsC.pop (h : HsC b C (.dat d :: T) (some v :: τ) Γ σ H) : Dp b.K C v d ∧ HsC b C T τ Γ σ H := by
  obtain ⟨ps, qs, c, h1, h2⟩ := h
  cases h1 with
  | dat q h1 => exact ⟨q, ps, qs, c, h1, h2⟩
theorem HsC.drop {x : Option V} (h : HsC b C (s :: T) (x :: τ) Γ σ H) : HsC b C T τ Γ σ H := by
  obtain ⟨ps, qs, c, h1, h2⟩ := h
  cases h1 with
  | no h1 => exact ⟨ps, qs, c, h1, h2⟩
  | dat q h1 => exact ⟨ps, qs, c, h1, h2⟩
  | own y q q2 h1 => exact ⟨_, qs, c.sub (fun p hp => List.mem_cons_of_mem _ hp) (List.nodup_cons.mp c.nd).2, h1, h2⟩
theorem HsC.push (h : HsC b C T τ Γ σ H) (q : Dp b.K C v d) : HsC b C (.dat d :: T) (some v :: τ) Γ σ H := by
  obtain ⟨ps, qs, c, h1, h2⟩ := h
  exact ⟨ps, qs, c, .dat q h1, h2⟩
theorem HsC.pushAll (h : HsC b C T τ Γ σ H) : ∀ {vs : List V} {ds : List PyData}, DpAll b.K C vs ds → HsC b C (ds.map Sl.dat ++ T) (vs.map some ++ τ) Γ σ H
  | _, _, .nil => h
  | _, _, .cons r t => (h.pushAll t).push r
theorem HsC.popAll : ∀ {vs : List V} {ds : List PyData}, vs.length = ds.length → HsC b C (ds.map Sl.dat ++ T) (vs.map some ++ τ) Γ σ H → DpAll b.K C vs ds ∧ HsC b C T τ Γ σ H
  | [], [], _, h => ⟨.nil, h⟩
  | v :: vs, d :: ds, e, h => by
    obtain ⟨q, h⟩ := HsC.pop (T := ds.map Sl.dat ++ T) (τ := vs.map some ++ τ) h
    obtain ⟨q2, h⟩ := HsC.popAll (vs := vs) (ds := ds) (by simpa using e) h
    exact ⟨.cons q q2, h⟩
/-- the top of the pile is stored in a slot -/
theorem Hs.store {x : Option V} (h : Hs b (s :: T) (x :: τ) Γ σ H) (i : Nat) : Hs b T τ (Γ.set i s) (σ.set i x) H := by
  obtain ⟨C, ps, qs, c, h1, h2⟩ := h
  have main : ∀ {rs ps' : List Addr}, Has b.K C H [s] [x] rs → Has b.K C H T τ ps' → ps = rs ++ ps' → Hs b T τ (Γ.set i s) (σ.set i x) H := by
    clear h1
    rintro rs ps' r h1 rfl
    obtain ⟨qs', g1, g2, g3⟩ := h2.set r i
    have nd := c.nd
    refine ⟨C, ps', qs', c.sub (fun p hp => ?_) ?_, h1, g1⟩
    · rcases List.mem_append.mp hp with z | z
      · exact List.mem_append_left _ (List.mem_append_right _ z)
      · rcases g2 p z with z | z
        · exact List.mem_append_left _ (List.mem_append_left _ z)
        · exact List.mem_append_right _ z
    · rw [List.append_assoc] at nd
      have n1 := List.nodup_append.mp nd
      have n2 := List.nodup_append.mp n1.2.1
      refine List.nodup_append.mpr ⟨n2.1, g3 (List.nodup_append.mpr ⟨n1.1, n2.2.1, fun p hp q hq => n1.2.2 p hp q (List.mem_append_right _ hq)⟩), fun p hp q hq => ?_⟩
      rcases g2 q hq with z | z
      · exact fun e => n1.2.2 q z p (List.mem_append_left _ hp) e.symm
      · exact n2.2.2 p hp q z
  cases h1 with
  | no h1 => exact main (.no .nil) h1 rfl
  | dat q h1 => exact main (.dat q .nil) h1 rfl
  | own y q q2 h1 => exact main (.own y q q2 .nil) h1 rfl
theorem Hs.pop (h : Hs b (.dat d :: T) (some v :: τ) Γ σ H) : ∃ C, Dp b.K C v d ∧ HsC b C T τ Γ σ H := by
  obtain ⟨C, h⟩ := h
  exact ⟨C, h.pop⟩
theorem Hs.drop {x : Option V} (h : Hs b (s :: T) (x :: τ) Γ σ H) : Hs b T τ Γ σ H := by
  obtain ⟨C, h⟩ := h
  exact ⟨C, h.drop⟩
/-- a list of one's own becomes data -/
theorem Hs.freeze {z : Option Addr} (h : Hs b (.ownq z ds :: T) (some v :: τ) Γ σ H) : Hs b (.dat (.list ds) :: T) (some v :: τ) Γ σ H := by
  obtain ⟨C, ps, qs, c, h1, h2⟩ := h
  cases h1 with
  | own y e d h1 =>
    rename_i ps q vs
    obtain ⟨o1, o2⟩ := c.ow q (List.mem_append_left _ List.mem_cons_self)
    have hne : ∀ p ∈ ps ++ qs, p ≠ q := fun p hp z => by
      subst z
      exact (List.nodup_cons.mp c.nd).1 hp
    refine ⟨upd C q (.lst vs), ps, qs, ⟨c.bc.trans (Ex.new o1), fun a u h => ?_, c.h0, fun a z y => ?_, fun p hp => ?_, (List.nodup_cons.mp c.nd).2⟩, .dat (.lst (.inl (.inl upd_same)) (dpax (Ex.new o1) d)) (h1.mono (Ex.new o1) fun _ _ _ z => z), h2.mono (Ex.new o1) fun _ _ _ z => z⟩
    · by_cases z : a = q
      · subst z; rw [upd_same] at h; cases h; exact e
      · rw [upd_ne z] at h; exact c.ch a u h
    · rw [upd_ne (fun y => z (by rw [y]; exact o2))]; exact c.fr a z y
    · rw [upd_ne (hne p hp)]; exact c.ow p (List.mem_cons_of_mem _ hp)
/-- the end of a def: what its caller gets -/
theorem Hs.ret {τ' : L2.St} {x : V} (h : Hs b (s :: T) (some x :: τ') Γ σ H) : Ret b.K b.H0 b.B s x H := by
  obtain ⟨C, ps, qs, c, h1, h2⟩ := h
  have main : ∀ {rs ps' : List Addr}, Has b.K C H [s] [some x] rs → ps = rs ++ ps' → Ret b.K b.H0 b.B s x H := by
    rintro rs ps' r rfl
    exact ⟨C, rs, c.bc, c.ch, c.h0, c.fr, r, fun p hp => c.ow p (List.mem_append_left _ (List.mem_append_left _ hp))⟩
  cases h1 with
  | no h1 => exact main (.no .nil) rfl
  | dat q h1 => exact main (.dat q .nil) rfl
  | own y q q2 h1 => exact main (.own y q q2 .nil) rfl
/-! ### expressions -/
def EvS (b : Bs) (te : TE) (Γ Γ' : List Sl) (s : Sl) : Prop := ∀ T τ σ H, Hs b T τ Γ σ H → ∀ Q : VK, (∀ v H', Hs b (s :: T) (some v :: τ) Γ' σ H' → Q v H') → te σ H Q
def EvT (b : Bs) (tt : TT) (Γ Γ' : List Sl) (k : Bool) : Prop := ∀ T τ σ H, Hs b T τ Γ σ H → ∀ Q : Bool → Hp → Prop, (∀ H', Hs b T τ Γ' σ H' → Q k H') → tt σ H Q
def EvA (b : Bs) (ta : TA) (Γ Γ' : List Sl) (ds : List PyData) : Prop := ∀ T τ σ H, Hs b T τ Γ σ H → ∀ Q : List V → Hp → Prop, (∀ vs H' C, HsC b C T τ Γ' σ H' → DpAll b.K C vs ds → Q vs H') → ta σ H Q
def RD (K : PySem.W.Frag) (r : R2) (d e : PyData) (s : Sl) : Prop := ∀ C H x y, Ex C H → Dp K C x d → Dp K C y e → ∀ Q : VK, (∀ v H', Ret K H C s v H' → Q v H') → r x y H Q
def UD (K : PySem.W.Frag) (r : V → Hp → VK → Prop) (d : PyData) (s : Sl) : Prop := ∀ C H x, Ex C H → Dp K C x d → ∀ Q : VK, (∀ v H', Ret K H C s v H' → Q v H') → r x H Q
def CD (K : PySem.W.Frag) (r : List V → Hp → VK → Prop) (ds : List PyData) (s : Sl) : Prop := ∀ C H vs, Ex C H → DpAll K C vs ds → ∀ Q : VK, (∀ v H', Ret K H C s v H' → Q v H') → r vs H Q
theorem s_var {i : Nat} (h : Γ[i]? = some (.dat d)) : EvS b (tVar i) Γ Γ (.dat d) := fun T τ σ H hs Q q => by
  obtain ⟨C, ps, qs, c, h1, h2⟩ := hs
  obtain ⟨v, e, dv⟩ := h2.get_dat h
  exact ⟨v, e, q v H ⟨C, ps, qs, c, .dat dv h1, h2⟩⟩
theorem s_ret {v : V} {te : TE} (h : ∀ σ H Q, Q v H → te σ H Q) (hd : ∀ C, Dp b.K C v d) : EvS b te Γ Γ (.dat d) := fun T τ σ H hs Q q => by
  obtain ⟨C, hs⟩ := hs
  exact h σ H Q (q v H ⟨C, hs.push (hd C)⟩)
theorem s_int {i : Int} : EvS b (tC (.int i)) Γ Γ (.dat (.int i)) := s_ret (v := .int i) (fun _ _ _ q => q) fun _ => .int i
theorem s_bl {k : Bool} : EvS b (tC (.bl k)) Γ Γ (.dat (.bool k)) := s_ret (v := .bl k) (fun _ _ _ q => q) fun _ => .bl k
theorem s_str {x : Str} : EvS b (tC (.str x)) Γ Γ (.dat (.str x)) := s_ret (v := .str x) (fun _ _ _ q => q) fun _ => .str x
theorem s_non : EvS b (tC .non) Γ Γ (.dat .none) := s_ret (v := .non) (fun _ _ _ q => q) fun _ => .non
theorem s_op {ta tb : TE} {r : R2} (ha : EvS b ta Γ Γ1 (.dat d)) (hb : EvS b tb Γ1 Γ2 (.dat e)) (hr : RD b.K r d e s) : EvS b (tOp r ta tb) Γ Γ2 s := fun T τ σ H hs Q q =>
  ha T τ σ H hs _ fun x H1 h1 => hb _ _ σ H1 h1 _ fun y H2 h2 => by
    obtain ⟨C, dy, h3⟩ := h2.pop
    obtain ⟨dx, h4⟩ := h3.pop
    exact hr C H2 x y h4.ch dx dy Q fun v H3 rt => q v H3 (h4.step rt)
theorem s_un {ta : TE} {r : V → Hp → VK → Prop} (ha : EvS b ta Γ Γ1 (.dat d)) (hr : UD b.K r d s) : EvS b (tUn r ta) Γ Γ1 s := fun T τ σ H hs Q q =>
  ha T τ σ H hs _ fun x H1 h1 => by
    obtain ⟨C, dx, h4⟩ := h1.pop
    exact hr C H1 x h4.ch dx Q fun v H3 rt => q v H3 (h4.step rt)
theorem a_nil : EvA b tNil Γ Γ [] := fun T τ σ H hs Q q => by
  obtain ⟨C, hs⟩ := hs
  exact q [] H C hs .nil
theorem a_cons {ta : TE} {tr : TA} (ha : EvS b ta Γ Γ1 (.dat d)) (hr : EvA b tr Γ1 Γ2 ds) : EvA b (tCons ta tr) Γ Γ2 (d :: ds) := fun T τ σ H hs Q q =>
  ha T τ σ H hs _ fun x H1 h1 => hr _ _ σ H1 h1 _ fun xs H2 C h2 dxs => by
    obtain ⟨dx, h3⟩ := h2.pop
    exact q _ H2 C h3 (.cons dx dxs)
theorem s_cb {ta : TA} {r : List V → Hp → VK → Prop} (ha : EvA b ta Γ Γ1 ds) (hr : CD b.K r ds s) : EvS b (tCB r ta) Γ Γ1 s := fun T τ σ H hs Q q =>
  ha T τ σ H hs _ fun vs H1 C h1 dv => hr C H1 vs h1.ch dv Q fun v H2 rt => q v H2 (h1.step rt)
theorem s_tup {ta : TA} (ha : EvA b ta Γ Γ1 ds) (hl : ds.length ≤ 100000 := by decide) : EvS b (tTup ta) Γ Γ1 (.dat (.tuple ds)) := fun T τ σ H hs Q q =>
  ha T τ σ H hs _ fun vs H1 C h1 dv => ⟨by rw [dpa_len dv]; exact Nat.le_trans hl (by decide), fun p hp => q _ _ (h1.step (Ret.tup h1.ch dv hp))⟩
theorem s_lst {ta : TA} (ha : EvA b ta Γ Γ1 ds) (hl : ds.length ≤ 100000 := by decide) : EvS b (tLst ta) Γ Γ1 (.own ds) := fun T τ σ H hs Q q =>
  ha T τ σ H hs _ fun vs H1 C h1 dv => ⟨by rw [dpa_len dv]; exact Nat.le_trans hl (by decide), fun p hp => q _ _ (h1.step (Ret.lst h1.ch dv hp))⟩
theorem s_weak {te : TE} {z : Option Addr} (h : EvS b te Γ Γ1 (.ownq z ds)) : EvS b te Γ Γ1 (.dat (.list ds)) := fun T τ σ H hs Q q => h T τ σ H hs Q fun v H' h' => q v H' h'.freeze
theorem s_lstD {ta : TA} (ha : EvA b ta Γ Γ1 ds) (hl : ds.length ≤ 100000 := by decide) : EvS b (tLst ta) Γ Γ1 (.dat (.list ds)) := s_weak (s_lst ha hl)
theorem s_is {te : TE} (h : EvS b te Γ Γ1 s) (e : s = s') : EvS b te Γ Γ1 s' := e ▸ h
theorem s_dat {te : TE} {d d' : PyData} (h : EvS b te Γ Γ1 (.dat d)) (e : d = d') : EvS b te Γ Γ1 (.dat d') := e ▸ h
theorem t_is {tt : TT} {k k' : Bool} (h : EvT b tt Γ Γ1 k) (e : k = k') : EvT b tt Γ Γ1 k' := e ▸ h
/-! ### promises of pure defs -/
def spP (K : PySem.W.Frag) (f : List PyData → Sl → Prop) : Sp := fun vs H Q _ => ∃ C ds s, Ex C H ∧ DpAll K C vs ds ∧ f ds s ∧ ∀ v H', Ret K H C s v H' → Q v H'
theorem s_call {ta : TA} {f : List PyData → Sl → Prop} {E : XK} (ha : EvA b ta Γ Γ1 ds) (hf : f ds s) : EvS b (tCall (spP b.K f) [] E ta) Γ Γ1 s := fun T τ σ H hs Q q =>
  ha T τ σ H hs _ fun vs H1 C h1 dv => by
    rw [List.append_nil]
    exact ⟨C, ds, s, h1.ch, dv, hf, fun v H2 rt => q v H2 (h1.step rt)⟩
/-! ### tests -/
theorem t_test {te : TE} {k : Bool} (h : EvS b te Γ Γ1 (.dat (.bool k))) : EvT b (tTest te) Γ Γ1 k := fun T τ σ H hs Q q =>
  h T τ σ H hs _ fun v H' h' => by
    obtain ⟨C, dv, h2⟩ := h'.pop
    cases dv
    exact ⟨k, rfl, q H' ⟨C, h2⟩⟩
theorem t_B {te : TE} {k : Bool} (h : EvS b te Γ Γ1 (.dat (.bool k))) : EvT b (tB te) Γ Γ1 k := t_test h
theorem t_yes : EvT b tYes Γ Γ true := fun T τ σ H hs Q q => q H hs
theorem t_not {t : TT} {k : Bool} (h : EvT b t Γ Γ1 k) : EvT b (tNot t) Γ Γ1 (!k) := fun T τ σ H hs Q q => h T τ σ H hs _ fun H' h' => q H' h'
theorem t_and {t u : TT} {k l : Bool} (h : EvT b t Γ Γ k) (h2 : k = true → EvT b u Γ Γ l) : EvT b (tAnd t u) Γ Γ (k && l) := fun T τ σ H hs Q q => h T τ σ H hs _ fun H' h' => by
  cases k with
  | true => exact (iteT (h2 rfl T τ σ H' h' Q q))
  | false => exact (iteF (q H' h'))
theorem t_or {t u : TT} {k l : Bool} (h : EvT b t Γ Γ k) (h2 : k = false → EvT b u Γ Γ l) : EvT b (tOr t u) Γ Γ (k || l) := fun T τ σ H hs Q q => h T τ σ H hs _ fun H' h' => by
  cases k with
  | true => exact (iteT (q H' h'))
  | false => exact (iteF (h2 rfl T τ σ H' h' Q q))
theorem s_andV {ta tb : TE} {k l : Bool} (h : EvS b ta Γ Γ (.dat (.bool k))) (h2 : k = true → EvS b tb Γ Γ (.dat (.bool l))) : EvS b (tAndV ta tb) Γ Γ (.dat (.bool (k && l))) := fun T τ σ H hs Q q => h T τ σ H hs _ fun v H' h' => by
  obtain ⟨C, dv, h3⟩ := h'.pop
  cases dv
  refine ⟨k, rfl, ?_⟩
  cases k with
  | true => exact (iteT (h2 rfl T τ σ H' ⟨C, h3⟩ Q q))
  | false => exact (iteF (q _ H' h'))
theorem s_orV {ta tb : TE} {k l : Bool} (h : EvS b ta Γ Γ (.dat (.bool k))) (h2 : k = false → EvS b tb Γ Γ (.dat (.bool l))) : EvS b (tOrV ta tb) Γ Γ (.dat (.bool (k || l))) := fun T τ σ H hs Q q => h T τ σ H hs _ fun v H' h' => by
  obtain ⟨C, dv, h3⟩ := h'.pop
  cases dv
  refine ⟨k, rfl, ?_⟩
  cases k with
  | true => exact (iteT (q _ H' h'))
  | false => exact (iteF (h2 rfl T τ σ H' ⟨C, h3⟩ Q q))
theorem s_notV {ta : TE} {k : Bool} (h : EvS b ta Γ Γ1 (.dat (.bool k))) : EvS b (tNotV ta) Γ Γ1 (.dat (.bool (!k))) := fun T τ σ H hs Q q => h T τ σ H hs _ fun v H' h' => by
  obtain ⟨C, dv, h3⟩ := h'.pop
  cases dv
  exact ⟨k, rfl, q _ H' ⟨C, h3.push (.bl _)⟩⟩
theorem s_if {t : TT} {ta tb : TE} {k : Bool} (h : EvT b t Γ Γ1 k) (h1 : k = true → EvS b ta Γ1 Γ2 s) (h2 : k = false → EvS b tb Γ1 Γ2 s) : EvS b (tIf t ta tb) Γ Γ2 s := fun T τ σ H hs Q q => h T τ σ H hs _ fun H' h' => by
  cases k with
  | true => exact iteT (h1 rfl T τ σ H' h' Q q)
  | false => exact iteF (h2 rfl T τ σ H' h' Q q)
/-! ### statements: N is shown in every state that is so -/
def Nx (b : Bs) (N : L2.St → Hp → Prop) (T : List Sl) (τ : L2.St) (Γ : List Sl) : Prop := ∀ σ H, Hs b T τ Γ σ H → N σ H
variable {D : Ends} {t u : TS} {te : TE}
theorem n_seq (h : Nx b (t { D with nx := u D }) T τ Γ) : Nx b (tSeq t u D) T τ Γ := h
theorem n_set {i : Nat} (h : EvS b te Γ Γ1 s) (k : Nx b D.nx T τ (Γ1.set i s)) : Nx b (tAsg te (gName i) D) T τ Γ := fun σ H hs => h T τ σ H hs _ fun v H' h' => k _ _ (h'.store i)
theorem n_drop (h : EvS b te Γ Γ1 s) (k : Nx b D.nx T τ Γ1) : Nx b (tDrop te D) T τ Γ := fun σ H hs => h T τ σ H hs _ fun v H' h' => k _ _ h'.drop
theorem n_ret (h : EvS b te Γ Γ1 s) (k : ∀ v H', Ret b.K b.H0 b.B s v H' → D.rt v H') : Nx b (tRet te D) T τ Γ := fun σ H hs => h T τ σ H hs _ fun v H' h' => k v H' h'.ret
theorem n_if {tt : TT} {k : Bool} (h : EvT b tt Γ Γ1 k) (h1 : k = true → Nx b (t D) T τ Γ1) (h2 : k = false → Nx b (u D) T τ Γ1) : Nx b (tIfS tt t u D) T τ Γ := fun σ H hs => h T τ σ H hs _ fun H' h' => by
  cases k with
  | true => exact iteT (h1 rfl σ H' h')
  | false => exact iteF (h2 rfl σ H' h')
theorem n_next (k : Nx b D.nx T τ Γ) : Nx b (tNext D) T τ Γ := k
theorem n_hs : Nx b (fun σ H => Hs b T τ Γ σ H) T τ Γ := fun _ _ h => h
/-! ### what is walked -/
def ItOk (K : PySem.W.Frag) (J : It) (vs : List V) (ds its : List PyData) : Prop := ∀ C H, Ex C H → DpAll K C vs ds → J.stop its.length H ∧ ∀ i di, its[i]? = some di → J.go i H ∧ ∀ x H', J.yld i H x H' → Ret K H C (.dat di) x H'
def EvI (b : Bs) (wi : TI) (Γ Γ' : List Sl) (ds its : List PyData) : Prop := ∀ T τ σ H, Hs b T τ Γ σ H → ∀ R : It → Hp → Prop, (∀ J vs H' C, ItOk b.K J vs ds its → HsC b C T τ Γ' σ H' → DpAll b.K C vs ds → R J H') → wi σ H R
/-- what a target does -/
def EvG (b : Bs) (g : TG) (d : PyData) (Γ Γ' : List Sl) : Prop := ∀ T τ σ H x, Hs b (.dat d :: T) (some x :: τ) Γ σ H → ∀ Q : L2.St → Hp → Prop, (∀ σ', Hs b T τ Γ' σ' H → σ'.length = σ.length → Q σ' H) → g x σ H Q
theorem g_name {i : Nat} : EvG b (gName i) d Γ (Γ.set i (.dat d)) := fun T τ σ H x hs Q q => q _ (hs.store i) (by simp)
theorem g_tup2 {K : PySem.W.Frag} (hK : b.K = K) {i j : Nat} {d e : PyData} : EvG b (gTup K 2 (gCons (gName i) (gCons (gName j) gNil))) (.tuple [d, e]) Γ ((Γ.set i (.dat d)).set j (.dat e)) := fun T τ σ H x hs Q q => by
  obtain ⟨C, dx, h⟩ := hs.pop
  subst hK
  cases dx with
  | tup hq ha =>
    rename_i a xs
    cases ha with
    | cons r1 ha =>
      cases ha with
      | cons r2 ha =>
        cases ha
        rename_i v1 v2
        refine ⟨a, _, rfl, ex_t h.ch hq, rfl, v1, _, rfl, v2, _, rfl, rfl, ?_⟩
        have s1 : Hs b (.dat d :: .dat e :: T) (some v1 :: some v2 :: τ) Γ σ H := ⟨C, (h.push r2).push r1⟩
        exact q _ ((s1.store i).store j) (by simp)
theorem n_for {wi : TI} {g : TG} {tb : TS} {its : List PyData} (hI : EvI b wi Γ Γ1 ds its) (G G' : Nat → List Sl) (h0 : G 0 = Γ1)
    (hg : ∀ i di, its[i]? = some di → EvG b g di (G i) (G' i))
    (hb : ∀ i di (vs : List V), vs.length = ds.length → its[i]? = some di → Nx b (tb { D with nx := fun σ H => Hs b (ds.map Sl.dat ++ T) (vs.map some ++ τ) (G (i + 1)) σ H, ct := fun σ H => Hs b (ds.map Sl.dat ++ T) (vs.map some ++ τ) (G (i + 1)) σ H, bk := D.nx }) (ds.map Sl.dat ++ T) (vs.map some ++ τ) (G' i))
    (hd : Nx b D.nx T τ (G its.length)) : Nx b (tFor wi g tb D) T τ Γ := fun σ H hs => hI T τ σ H hs _ fun J vs H1 C ok h1 dv => by
  have hl := dpa_len dv
  refine ⟨fun i m σ' H' => i ≤ its.length ∧ m = its.length - i ∧ Hs b (ds.map Sl.dat ++ T) (vs.map some ++ τ) (G i) σ' H', ⟨_, Nat.zero_le _, rfl, h0 ▸ ⟨C, h1.pushAll dv⟩⟩, ?_⟩
  rintro i m σ' H' ⟨hi, rfl, C', h2⟩
  obtain ⟨dv', h3⟩ := HsC.popAll hl h2
  obtain ⟨st, go⟩ := ok C' H' h3.ch dv'
  by_cases hlt : i < its.length
  · obtain ⟨g1, g2⟩ := go i its[i] (by simp [hlt])
    refine .inr ⟨g1, _, fun σ2 H2 n => ⟨its.length - (i + 1), by omega, hlt, rfl, n⟩, fun x H2 y => ?_⟩
    exact hg i its[i] (by simp [hlt]) _ _ _ _ _ (h2.step (g2 x H2 y)) _ fun σ3 h5 _ => hb i its[i] vs hl (by simp [hlt]) σ3 H2 h5
  · have e : i = its.length := by omega
    subst e
    exact .inl ⟨st, hd σ' H' ⟨C', h3⟩⟩
/-- wiped slots -/
def wipeG : List Sl → List Nat → List Sl
  | Γ, [] => Γ
  | Γ, v :: vs => (wipeG Γ vs).set v .no
theorem hs_wipe (h : Hs b T τ Γ σ H) : ∀ vs : List Nat, Hs b T τ (wipeG Γ vs) (wipe σ vs) H
  | [] => h
  | v :: vs => by
    have h1 := hs_wipe h vs
    have h2 : Hs b (.no :: T) (none :: τ) (wipeG Γ vs) (wipe σ vs) H := by
      obtain ⟨C, ps, qs, c, g1, g2⟩ := h1
      exact ⟨C, ps, qs, c, .no g1, g2⟩
    exact h2.store v
end
end G
namespace G
open PySem PySem.Spec PyProof.Rows L2
open Evl (Ex ex_rd ex_l ex_t rMax2)
section
variable {K : PySem.W.Frag} {C H : Hp} {i j : Int} {d e : PyData} {ds es : List PyData} {s : Sl}
/-! ### operations on data -/
theorem rd_int {g : Int → Int → Int} : RD K (rI0 fun i j => V.int (g i j)) (.int i) (.int j) (.dat (.int (g i j))) := fun C H x y e dx dy Q q => by
  cases dx; cases dy
  exact ⟨i, j, rfl, rfl, q _ _ (.same e (.int _))⟩
theorem rd_bl {g : Int → Int → Bool} : RD K (rI0 fun i j => V.bl (g i j)) (.int i) (.int j) (.dat (.bool (g i j))) := fun C H x y e dx dy Q q => by
  cases dx; cases dy
  exact ⟨i, j, rfl, rfl, q _ _ (.same e (.bl _))⟩
theorem rd_intC {c : Int → Int → Prop} {g : Int → Int → Int} (hc : c i j) : RD K (rI c fun i j => V.int (g i j)) (.int i) (.int j) (.dat (.int (g i j))) := fun C H x y e dx dy Q q => by
  cases dx; cases dy
  exact ⟨i, j, rfl, rfl, hc, q _ _ (.same e (.int _))⟩
theorem rd_eqD (h1 : SeqAt.shaped d = true) (h2 : SeqAt.shaped e = true) : RD K (rEqD K) d e (.dat (.bool (PyData.eqv d e))) := fun C H x y ex dx dy Q q =>
  ⟨d, e, dpx ex dx, dpx ex dy, h1, h2, q _ _ (.same ex (.bl _))⟩
theorem rd_neD (h1 : SeqAt.shaped d = true) (h2 : SeqAt.shaped e = true) : RD K (rNeD K) d e (.dat (.bool (!PyData.eqv d e))) := fun C H x y ex dx dy Q q =>
  ⟨d, e, dpx ex dx, dpx ex dy, h1, h2, q _ _ (.same ex (.bl _))⟩
theorem atI_dpa {vs : List V} (h : DpAll K C vs ds) (a : atI ds i = some d) : ∃ v, atI vs i = some v ∧ Dp K C v d := by
  unfold atI at a ⊢
  rw [dpa_len h]
  cases hx : ixN ds.length i with
  | none => rw [hx] at a; cases a
  | some j =>
    rw [hx] at a
    exact dpa_get h a
theorem rd_ixL (a : atI ds i = some d) : RD K (rIx K) (.list ds) (.int i) (.dat d) := fun C H x y ex dx dy Q q => by
  cases dy
  cases dx with
  | lst hq ha =>
    obtain ⟨v, h1, h2⟩ := atI_dpa ha a
    exact .inl ⟨_, _, i, v, rfl, rfl, ex_l ex hq, h1, q _ _ (.same ex h2)⟩
theorem rd_ixT (a : atI ds i = some d) : RD K (rIx K) (.tuple ds) (.int i) (.dat d) := fun C H x y ex dx dy Q q => by
  cases dy
  cases dx with
  | tup hq ha =>
    obtain ⟨v, h1, h2⟩ := atI_dpa ha a
    exact .inr (.inl ⟨_, _, i, v, rfl, rfl, ex_t ex hq, h1, q _ _ (.same ex h2)⟩)
theorem ud_neg : UD K (rU fun i => V.int (-i)) (.int i) (.dat (.int (-i))) := fun C H x ex dx Q q => by
  cases dx
  exact ⟨i, rfl, q _ _ (.same ex (.int _))⟩
/-! ### built-in calls -/
def rLen (K : PySem.W.Frag) : List V → Hp → VK → Prop := fun xs H Q => ∃ p ys, xs = [.ref p] ∧ (SqL K H p ys ∨ SqT K H p ys) ∧ Q (.int ys.length) H
def rMin2 : List V → Hp → VK → Prop := fun xs H Q => ∃ i j, xs = [.int i, .int j] ∧ Q (.int (if j < i then j else i)) H
def rInt1 : List V → Hp → VK → Prop := fun xs H Q => (∃ i, xs = [.int i] ∧ Q (.int i) H) ∨ ∃ k, xs = [.bl k] ∧ Q (.int (if k then 1 else 0)) H
def rAbs : List V → Hp → VK → Prop := fun xs H Q => ∃ i, xs = [.int i] ∧ Q (.int (if i < 0 then -i else i)) H
def rTupOf (K : PySem.W.Frag) : List V → Hp → VK → Prop := fun xs H Q => ∃ p ys, xs = [.ref p] ∧ ((SqL K H p ys ∧ ∀ l, H l = none → Q (.ref l) (upd H l (.tup ys))) ∨ (SqT K H p ys ∧ Q (.ref p) H))
def rListOf (K : PySem.W.Frag) : List V → Hp → VK → Prop := fun xs H Q => ∃ p ys, xs = [.ref p] ∧ (SqL K H p ys ∨ SqT K H p ys) ∧ ∀ l, H l = none → Q (.ref l) (upd H l (.lst ys))
theorem cr_len {X : Cx} : CallR X (.builtin "len") (rLen X.K) := call_len_seq
theorem cr_max2 {X : Cx} (hc : X.calm = true) : CallR X (.builtin "max") rMax2 := call_max2 hc
theorem cr_min2 {X : Cx} (hc : X.calm = true) : CallR X (.builtin "min") rMin2 := call_min2 hc
theorem cr_int1 {X : Cx} : CallR X (.type "int") rInt1 := call_int1
theorem cr_abs {X : Cx} : CallR X (.builtin "abs") rAbs := call_abs
theorem cr_tup {X : Cx} : CallR X (.type "tuple") (rTupOf X.K) := call_tuple_of
theorem cr_list {X : Cx} : CallR X (.type "list") (rListOf X.K) := call_list_of
theorem cd_lenL : CD K (rLen K) [.list ds] (.dat (.int ds.length)) := fun C H vs ex dv Q q => by
  cases dv with | cons dx dv => cases dv; cases dx with
    | lst hq ha => exact ⟨_, _, rfl, .inl (ex_l ex hq), by rw [dpa_len ha]; exact q _ _ (.same ex (.int _))⟩
theorem cd_lenT : CD K (rLen K) [.tuple ds] (.dat (.int ds.length)) := fun C H vs ex dv Q q => by
  cases dv with | cons dx dv => cases dv; cases dx with
    | tup hq ha => exact ⟨_, _, rfl, .inr (ex_t ex hq), by rw [dpa_len ha]; exact q _ _ (.same ex (.int _))⟩
theorem cd_max2 : CD K rMax2 [.int i, .int j] (.dat (.int (max i j))) := fun C H vs ex dv Q q => by
  cases dv with | cons dx dv => cases dv with | cons dy dv => cases dv; cases dx; cases dy; exact ⟨i, j, rfl, by
    have e : (if j > i then j else i) = max i j := by by_cases h : j > i <;> simp [h] <;> omega
    rw [e]; exact q _ _ (.same ex (.int _))⟩
theorem cd_min2 : CD K rMin2 [.int i, .int j] (.dat (.int (min i j))) := fun C H vs ex dv Q q => by
  cases dv with | cons dx dv => cases dv with | cons dy dv => cases dv; cases dx; cases dy; exact ⟨i, j, rfl, by
    have e : (if j < i then j else i) = min i j := by by_cases h : j < i <;> simp [h] <;> omega
    rw [e]; exact q _ _ (.same ex (.int _))⟩
theorem cd_int : CD K rInt1 [.int i] (.dat (.int i)) := fun C H vs ex dv Q q => by
  cases dv with | cons dx dv => cases dv; cases dx; exact .inl ⟨i, rfl, q _ _ (.same ex (.int _))⟩
theorem cd_intB {k : Bool} : CD K rInt1 [.bool k] (.dat (.int (if k then 1 else 0))) := fun C H vs ex dv Q q => by
  cases dv with | cons dx dv => cases dv; cases dx; exact .inr ⟨k, rfl, q _ _ (.same ex (.int _))⟩
theorem cd_abs : CD K rAbs [.int i] (.dat (.int (i.natAbs : Int))) := fun C H vs ex dv Q q => by
  cases dv with | cons dx dv => cases dv; cases dx; exact ⟨i, rfl, by
    have e : (if i < 0 then -i else i) = (i.natAbs : Int) := by by_cases h : i < 0 <;> simp [h] <;> omega
    rw [e]; exact q _ _ (.same ex (.int _))⟩
theorem cd_tupL : CD K (rTupOf K) [.list ds] (.dat (.tuple ds)) := fun C H vs ex dv Q q => by
  cases dv with | cons dx dv => cases dv; cases dx with
    | lst hq ha => exact ⟨_, _, rfl, .inl ⟨ex_l ex hq, fun l hl => q _ _ (.tup ex ha hl)⟩⟩
theorem cd_tupT : CD K (rTupOf K) [.tuple ds] (.dat (.tuple ds)) := fun C H vs ex dv Q q => by
  cases dv with | cons dx dv => cases dv; cases dx with
    | tup hq ha => exact ⟨_, _, rfl, .inr ⟨ex_t ex hq, q _ _ (.same ex (.tup hq ha))⟩⟩
theorem cd_listL : CD K (rListOf K) [.list ds] (.own ds) := fun C H vs ex dv Q q => by
  cases dv with | cons dx dv => cases dv; cases dx with
    | lst hq ha => exact ⟨_, _, rfl, .inl (ex_l ex hq), fun l hl => q _ _ (.lst ex ha hl)⟩
theorem cd_listT : CD K (rListOf K) [.tuple ds] (.own ds) := fun C H vs ex dv Q q => by
  cases dv with | cons dx dv => cases dv; cases dx with
    | tup hq ha => exact ⟨_, _, rfl, .inr (ex_t ex hq), fun l hl => q _ _ (.lst ex ha hl)⟩
theorem dpa_bools : ∀ {bs : List Bool} {vs : List V}, DpAll K C vs (bs.map PyData.bool) → vs = bs.map V.bl
  | [], _, .nil => rfl
  | b :: bs, _, .cons r t => by
    cases r
    rw [dpa_bools t]; rfl
theorem cd_all {bs : List Bool} : CD K (rAll K) [.list (bs.map .bool)] (.dat (.bool (bs.all id))) := fun C H vs ex dv Q q => by
  cases dv with | cons dx dv => cases dv; cases dx with
    | lst hq ha => exact ⟨_, bs, rfl, by rw [← dpa_bools ha]; exact ex_l ex hq, q _ _ (.same ex (.bl _))⟩
theorem cd_any {bs : List Bool} : CD K (rAny K) [.list (bs.map .bool)] (.dat (.bool (bs.any id))) := fun C H vs ex dv Q q => by
  cases dv with | cons dx dv => cases dv; cases dx with
    | lst hq ha => exact ⟨_, bs, rfl, by rw [← dpa_bools ha]; exact ex_l ex hq, q _ _ (.same ex (.bl _))⟩
/-- the kind of data -/
def kindOf : PyData → String
  | .bool _ => "bool" | .int _ => "int" | .none => "NoneType"
  | .list _ => "list" | .tuple _ => "tuple"
  | .str _ => "str" | .dict _ => "dict"
theorem tyx (h : Dp K H x d) : TyX K H x (.type (kindOf d)) := by
  cases h with
  | non => exact .base .non
  | bl b => exact .base (.bl b)
  | int i => exact .base (.int i)
  | str z => exact .base (.str z)
  | lst hq ha =>
    rcases hq with (h | ⟨o, h⟩) | ⟨o, its, n, h, c, _⟩
    · exact .base (.lst h)
    · exact .base (.frz h)
    · exact .kList h c
  | tup hq ha =>
    rcases hq with (h | ⟨o, h⟩) | ⟨o, its, n, h, c, _⟩
    · exact .base (.tup h)
    · exact .fTuple h
    · exact .kTuple h c
/-- isinstance(x, T), T the name of a built-in type -/
def tIsi (K : PySem.W.Frag) (ta : TE) (T : String) : TE := tCB (rIsi K) (tCons ta (tCons (tC (.ty T)) tNil))
end
section
variable {b : Bs} {C : Hp} {T Γ Γ' Γ1 Γ2 : List Sl} {τ σ : L2.St} {H H' : Hp} {s s' : Sl} {v : V} {d e : PyData} {ds es : List PyData} {vs : List V}
theorem s_isi {ta : TE} {n : String} {k : Bool} (h : EvS b ta Γ Γ1 (.dat d)) (hk : kitB (kindOf d) n = some k) : EvS b (tIsi b.K ta n) Γ Γ1 (.dat (.bool k)) := fun T τ σ H hs Q q =>
  h T τ σ H hs _ fun v H1 h1 => by
    obtain ⟨C, dv, h2⟩ := h1.pop
    exact ⟨v, .ty n, _, .type n, k, rfl, .ty n, tyx (dpx h2.ch dv), kit_ty hk, q _ _ ⟨C, h2.push (.bl k)⟩⟩
/-! ### a list of one's own in a slot -/
theorem Has.own_at {K : PySem.W.Frag} {ps : List Addr} (h : Has K C H Γ σ ps) : ∀ {i : Nat} {z : Option Addr} {ds : List PyData}, Γ[i]? = some (.ownq z ds) → ps.Nodup →
    ∃ p vs, σ[i]? = some (some (.ref p)) ∧ p ∈ ps ∧ H p = some (.lst vs) ∧ DpAll K C vs ds ∧ ∀ vs' ds', DpAll K C vs' ds' → Has K C (upd H p (.lst vs')) (Γ.set i (.ownq z ds')) σ ps := by
  induction h with
  | nil => intro i z ds e; simp at e
  | no q ih =>
    intro i z ds e n
    cases i with
    | zero => simp at e
    | succ i =>
      obtain ⟨p, vs, h1, h2, h3, h4, h5⟩ := ih (by simpa using e) n
      exact ⟨p, vs, by simpa using h1, h2, h3, h4, fun vs' ds' q => .no (h5 vs' ds' q)⟩
  | dat dd q ih =>
    intro i z ds e n
    cases i with
    | zero => simp at e
    | succ i =>
      obtain ⟨p, vs, h1, h2, h3, h4, h5⟩ := ih (by simpa using e) n
      exact ⟨p, vs, by simpa using h1, h2, h3, h4, fun vs' ds' q => .dat dd (h5 vs' ds' q)⟩
  | own y0 e0 d0 q ih =>
    rename_i Γ σ ps p0 vs0 ds0 z0
    intro i z ds e n
    have n2 := List.nodup_cons.mp n
    cases i with
    | zero =>
      simp at e; obtain ⟨rfl, rfl⟩ := e
      refine ⟨p0, vs0, rfl, List.mem_cons_self, e0, d0, fun vs' ds' r => .own y0 upd_same r (q.mono (Ex.refl C) fun p hp o z => ?_)⟩
      rw [upd_ne (fun y => n2.1 (by rw [← y]; exact hp))]; exact z
    | succ i =>
      obtain ⟨p, vs, h1, h2, h3, h4, h5⟩ := ih (by simpa using e) n2.2
      refine ⟨p, vs, by simpa using h1, List.mem_cons_of_mem _ h2, h3, h4, fun vs' ds' r => .own y0 ?_ d0 (h5 vs' ds' r)⟩
      rw [upd_ne (fun y => n2.1 (by rw [y]; exact h2))]; exact e0
theorem Cfg.upd {ps : List Addr} {p : Addr} {o : HO} (c : Cfg b C H ps) (hp : p ∈ ps) : Cfg b C (upd H p o) ps :=
  ⟨c.bc, fun a u h => by rw [upd_ne (fun z => by rw [z, (c.ow p hp).1] at h; cases h)]; exact c.ch a u h,
   fun a u h => by rw [upd_ne (fun z => by rw [z, (c.ow p hp).2] at h; cases h)]; exact c.h0 a u h, c.fr, c.ow, c.nd⟩
theorem HsC.own_at {i : Nat} {z : Option Addr} (h : HsC b C T τ Γ σ H) (e : Γ[i]? = some (.ownq z ds)) : ∃ p vs, σ[i]? = some (some (.ref p)) ∧ H p = some (.lst vs) ∧ DpAll b.K C vs ds ∧
    ∀ vs' ds', DpAll b.K C vs' ds' → HsC b C T τ (Γ.set i (.ownq z ds')) σ (upd H p (.lst vs')) := by
  obtain ⟨ps, qs, c, h1, h2⟩ := h
  have nd := List.nodup_append.mp c.nd
  obtain ⟨p, vs, g1, g2, g3, g4, g5⟩ := h2.own_at e nd.2.1
  refine ⟨p, vs, g1, g3, g4, fun vs' ds' r => ⟨ps, qs, c.upd (List.mem_append_right _ g2), h1.mono (Ex.refl C) fun q hq o z => ?_, g5 vs' ds' r⟩⟩
  rw [upd_ne (nd.2.2 q hq p g2)]; exact z
/-- on top of the pile -/
theorem HsC.own_top {x : Option V} {z : Option Addr} (h : HsC b C (.ownq z ds :: T) (x :: τ) Γ σ H) : ∃ p vs, x = some (.ref p) ∧ H p = some (.lst vs) ∧ DpAll b.K C vs ds ∧
    ∀ vs' ds', DpAll b.K C vs' ds' → HsC b C (.ownq z ds' :: T) (x :: τ) Γ σ (upd H p (.lst vs')) := by
  obtain ⟨ps, qs, c, h1, h2⟩ := h
  cases h1 with
  | own y0 e0 d0 h1 =>
    rename_i ps p vs
    have n2 := List.nodup_cons.mp c.nd
    refine ⟨p, vs, rfl, e0, d0, fun vs' ds' r => ⟨p :: ps, qs, Cfg.upd c List.mem_cons_self, .own y0 upd_same r (h1.mono (Ex.refl C) fun q hq o z => ?_), h2.mono (Ex.refl C) fun q hq o z => ?_⟩⟩
    · rw [upd_ne (fun y => n2.1 (by rw [← y]; exact List.mem_append_left _ hq))]; exact z
    · rw [upd_ne (fun y => n2.1 (by rw [← y]; exact List.mem_append_right _ hq))]; exact z
theorem Has.take {K : PySem.W.Frag} {ps : List Addr} (h : Has K C H Γ σ ps) : ∀ {i : Nat} {z : Option Addr} {ds : List PyData}, Γ[i]? = some (.ownq z ds) →
    ∃ p qs vs, (∀ r, z = some r → r = p) ∧ σ[i]? = some (some (.ref p)) ∧ H p = some (.lst vs) ∧ DpAll K C vs ds ∧ Has K C H (Γ.set i .no) σ qs ∧ ps.Perm (p :: qs) := by
  induction h with
  | nil => intro i z ds e; simp at e
  | no q ih =>
    intro i z ds e
    cases i with
    | zero => simp at e
    | succ i =>
      obtain ⟨p, qs, vs, h0, h1, h2, h3, h4, h5⟩ := ih (by simpa using e)
      exact ⟨p, qs, vs, h0, by simpa using h1, h2, h3, .no h4, h5⟩
  | dat dd q ih =>
    intro i z ds e
    cases i with
    | zero => simp at e
    | succ i =>
      obtain ⟨p, qs, vs, h0, h1, h2, h3, h4, h5⟩ := ih (by simpa using e)
      exact ⟨p, qs, vs, h0, by simpa using h1, h2, h3, .dat dd h4, h5⟩
  | own y0 e0 d0 q ih =>
    intro i z ds e
    cases i with
    | zero => simp at e; obtain ⟨rfl, rfl⟩ := e; exact ⟨_, _, _, y0, rfl, e0, d0, .no q, List.Perm.refl _⟩
    | succ i =>
      obtain ⟨p, qs, vs, h0, h1, h2, h3, h4, h5⟩ := ih (by simpa using e)
      exact ⟨p, _, vs, h0, by simpa using h1, h2, h3, .own y0 e0 d0 h4, (h5.cons _).trans (List.Perm.swap _ _ _)⟩
/-- the slot gives its list away -/
theorem s_own {i : Nat} {z : Option Addr} (h : Γ[i]? = some (.ownq z ds)) : EvS b (tVar i) Γ (Γ.set i .no) (.ownq z ds) := fun T τ σ H hs Q q => by
  obtain ⟨C, ps, qs, c, h1, h2⟩ := hs
  obtain ⟨p, rs, vs, g0, g1, g2, g3, g4, g5⟩ := h2.take h
  refine ⟨.ref p, g1, q _ H ⟨C, p :: ps, rs, ?_, .own g0 g2 g3 h1, g4⟩⟩
  have pm : (ps ++ qs).Perm (p :: ps ++ rs) := (g5.append_left ps).trans List.perm_middle
  exact ⟨c.bc, c.ch, c.h0, c.fr, fun a ha => c.ow a (pm.mem_iff.mpr ha), (pm.nodup_iff).mp c.nd⟩
/-- the slot's list is read as data, for good -/
theorem s_frz {i : Nat} {z : Option Addr} (h : Γ[i]? = some (.ownq z ds)) : EvS b (tVar i) Γ (Γ.set i .no) (.dat (.list ds)) := s_weak (s_own h)
theorem s_ixO {i : Nat} {k : Int} {tb : TE} {z : Option Addr} (h : Γ[i]? = some (.ownq z ds)) (hb : EvS b tb Γ Γ (.dat (.int k))) (ha : atI ds k = some d) : EvS b (tOp (rIx b.K) (tVar i) tb) Γ Γ (.dat d) := fun T τ σ H hs Q q => by
  obtain ⟨C, hs⟩ := hs
  obtain ⟨p, vs, g1, g2, g3, _⟩ := hs.own_at h
  refine ⟨.ref p, g1, hb T τ σ H ⟨C, hs⟩ _ fun v H1 h1 => ?_⟩
  obtain ⟨C1, dv, h2⟩ := h1.pop
  cases dv
  obtain ⟨p', vs', f1, f2, f3, _⟩ := h2.own_at h
  rw [g1] at f1
  cases f1
  obtain ⟨y, y1, y2⟩ := atI_dpa f3 ha
  exact .inl ⟨p, vs', k, y, rfl, rfl, .inl (.inl f2), y1, q _ _ ⟨C1, h2.push y2⟩⟩
theorem s_lenO {i : Nat} {z : Option Addr} (h : Γ[i]? = some (.ownq z ds)) : EvS b (tCB (rLen b.K) (tCons (tVar i) tNil)) Γ Γ (.dat (.int ds.length)) := fun T τ σ H hs Q q => by
  obtain ⟨C, hs⟩ := hs
  obtain ⟨p, vs, g1, g2, g3, _⟩ := hs.own_at h
  exact ⟨.ref p, g1, p, vs, rfl, .inl (.inl (.inl g2)), by rw [dpa_len g3]; exact q _ _ ⟨C, hs.push (.int _)⟩⟩
variable {D : Ends} {t u : TS} {te : TE}
theorem n_append {i : Nat} {z : Option Addr} (h : Γ[i]? = some (.ownq z ds)) (he : EvS b te Γ Γ (.dat d)) (hz : ds.length < 100000) (k : Nx b D.nx T τ (Γ.set i (.ownq z (ds ++ [d])))) :
    Nx b (tDrop (tBM b.K "list" rAppend (tVar i) (tCons te tNil)) D) T τ Γ := fun σ H hs => by
  obtain ⟨C, hs⟩ := hs
  obtain ⟨p, vs, g1, g2, g3, _⟩ := hs.own_at h
  refine ⟨.ref p, g1, .inl ⟨rfl, vs, .inl (.inl g2)⟩, he T τ σ H ⟨C, hs⟩ _ fun v H1 h1 => ?_⟩
  obtain ⟨C1, dv, h2⟩ := h1.pop
  obtain ⟨p', vs', f1, f2, f3, f4⟩ := h2.own_at h
  rw [g1] at f1
  cases f1
  exact ⟨p, vs', v, rfl, rfl, f2, by rw [dpa_len f3]; exact Nat.lt_of_lt_of_le hz (by decide), k _ _ ⟨C1, f4 _ _ (dpa_app f3 (.cons dv .nil))⟩⟩
theorem ixN_ok {n : Nat} {i : Int} (h0 : 0 ≤ i) (h1 : i < n) : ixN n i = some i.toNat := by
  unfold ixN
  rw [if_pos h0, if_pos h1]
theorem atI_ok {α : Type} {xs : List α} {i : Int} {x : α} (h0 : 0 ≤ i) (h : xs[i.toNat]? = some x) : atI xs i = some x := by
  have := atI_nat (xs := xs) (j := i.toNat) h
  rwa [Int.toNat_of_nonneg h0] at this
theorem n_setL {i j : Nat} {k : Int} {tb : TE} {z : Option Addr} (h : Γ[i]? = some (.ownq z ds)) (he : EvS b te Γ Γ (.dat d)) (hb : EvS b tb Γ Γ (.dat (.int k))) (hj : ixN ds.length k = some j) (kk : Nx b D.nx T τ (Γ.set i (.ownq z (ds.set j d)))) :
    Nx b (tAsg te (gSub (tVar i) tb rSetL) D) T τ Γ := fun σ H hs => by
  refine he T τ σ H hs _ fun v H1 h1 => ?_
  have hs1 := h1
  obtain ⟨C, hs1⟩ := hs1
  obtain ⟨p, vs, g1, g2, g3, _⟩ := hs1.own_at h
  refine ⟨.ref p, g1, hb _ _ σ H1 h1 _ fun y H2 h2 => ?_⟩
  obtain ⟨C2, dy, h3⟩ := h2.pop
  cases dy
  obtain ⟨dv, h4⟩ := h3.pop
  obtain ⟨p', vs', f1, f2, f3, f4⟩ := h4.own_at h
  rw [g1] at f1
  cases f1
  exact ⟨p, vs', k, j, rfl, rfl, f2, by rw [dpa_len f3]; exact hj, kk _ _ ⟨C2, f4 _ _ (dpa_set dv j f3)⟩⟩
/-! ### iterators -/
theorem dpa1 {K : PySem.W.Frag} {d : PyData} (h : DpAll K C vs [d]) : ∃ v, vs = [v] ∧ Dp K C v d := by
  cases h with | cons r t => cases t; exact ⟨_, rfl, r⟩
theorem dpa2 {K : PySem.W.Frag} {d e : PyData} (h : DpAll K C vs [d, e]) : ∃ v v', vs = [v, v'] ∧ Dp K C v d ∧ Dp K C v' e := by
  cases h with | cons r t => cases t with | cons r2 t => cases t; exact ⟨_, _, rfl, r, r2⟩
theorem i_range1 {ta : TA} {n : Int} (h : EvA b ta Γ Γ1 [.int n]) (hn : n ≤ 100000000) (h0 : -100000000 ≤ n) : EvI b (iRng1 ta) Γ Γ1 [] ((List.range n.toNat).map fun (k : Nat) => .int (k : Int)) := fun T τ σ H hs R r =>
  h T τ σ H hs _ fun vs H1 C h1 dv => by
    obtain ⟨v, rfl, dx⟩ := dpa1 dv
    cases dx
    refine ⟨n, rfl, by omega, by omega, r _ [] H1 C (fun C' H' ex _ => ?_) h1 .nil⟩
    refine ⟨(by show _ ≤ _; simp only [List.length_map, List.length_range]; exact Nat.le_refl _), fun i di e => ?_⟩
    rw [List.getElem?_map] at e
    obtain ⟨k, hk, rfl⟩ := Option.map_eq_some_iff.mp e
    obtain ⟨hlt, rfl⟩ := List.getElem?_eq_some_iff.mp hk
    refine ⟨(by show i < _; simpa only [List.length_range] using hlt), fun x H' y => ?_⟩
    obtain ⟨rfl, rfl⟩ := y
    have : (0 : Int) + (i : Int) = (i : Int) := Int.zero_add _
    rw [this, List.getElem_range]
    exact .same ex (.int _)
theorem i_range2 {ta : TA} {m n : Int} (h : EvA b ta Γ Γ1 [.int m, .int n]) (hn : -100000000 ≤ m ∧ m ≤ 100000000 ∧ -100000000 ≤ n ∧ n ≤ 100000000) : EvI b (iRng2 ta) Γ Γ1 [] ((List.range (n - m).toNat).map fun (k : Nat) => .int (m + (k : Int))) := fun T τ σ H hs R r =>
  h T τ σ H hs _ fun vs H1 C h1 dv => by
    obtain ⟨v, v', rfl, dx, dy⟩ := dpa2 dv
    cases dx
    cases dy
    refine ⟨m, n, rfl, by omega, r _ [] H1 C (fun C' H' ex _ => ?_) h1 .nil⟩
    refine ⟨(by show _ ≤ _; simp only [List.length_map, List.length_range]; exact Nat.le_refl _), fun i di e => ?_⟩
    rw [List.getElem?_map] at e
    obtain ⟨k, hk, rfl⟩ := Option.map_eq_some_iff.mp e
    obtain ⟨hlt, rfl⟩ := List.getElem?_eq_some_iff.mp hk
    refine ⟨(by show i < _; simpa only [List.length_range] using hlt), fun x H' y => ?_⟩
    obtain ⟨rfl, rfl⟩ := y
    rw [List.getElem_range]
    exact .same ex (.int _)
theorem i_list {tl : TE} (h : EvS b tl Γ Γ1 (.dat (.list ds))) : EvI b (iList b.K tl) Γ Γ1 [.list ds] ds := fun T τ σ H hs R r =>
  h T τ σ H hs _ fun v H1 h1 => by
    obtain ⟨C, dv, h2⟩ := h1.pop
    have dv2 := dv
    cases dv with
    | lst hq ha =>
      rename_i a xs
      refine ⟨a, rfl, ⟨xs, ex_l h2.ch hq⟩, r _ [.ref a] H1 C (fun C' H' ex dw => ?_) h2 (.cons dv2 .nil)⟩
      cases dw with | cons dz _ => cases dz with
        | lst hq' ha' =>
          have hl := dpa_len ha'
          refine ⟨⟨_, ex_l ex hq', by rw [hl]; exact Nat.le_refl _⟩, fun i di e => ?_⟩
          obtain ⟨y, y1, y2⟩ := dpa_get ha' e
          refine ⟨⟨_, y, ex_l ex hq', y1⟩, fun x H2 z => ?_⟩
          obtain ⟨rfl, z⟩ := z
          have := (z _ (ex_l ex hq')).symm.trans y1
          cases this
          exact .same ex y2
theorem i_tup {tl : TE} (h : EvS b tl Γ Γ1 (.dat (.tuple ds))) : EvI b (iTup b.K tl) Γ Γ1 [.tuple ds] ds := fun T τ σ H hs R r =>
  h T τ σ H hs _ fun v H1 h1 => by
    obtain ⟨C, dv, h2⟩ := h1.pop
    have dv2 := dv
    cases dv with
    | tup hq ha =>
      rename_i a xs
      refine ⟨a, rfl, ⟨xs, ex_t h2.ch hq⟩, r _ [.ref a] H1 C (fun C' H' ex dw => ?_) h2 (.cons dv2 .nil)⟩
      cases dw with | cons dz _ => cases dz with
        | tup hq' ha' =>
          have hl := dpa_len ha'
          refine ⟨⟨_, ex_t ex hq', by rw [hl]; exact Nat.le_refl _⟩, fun i di e => ?_⟩
          obtain ⟨y, y1, y2⟩ := dpa_get ha' e
          refine ⟨⟨_, y, ex_t ex hq', y1⟩, fun x H2 z => ?_⟩
          obtain ⟨rfl, z⟩ := z
          have := (z _ (ex_t ex hq')).symm.trans y1
          cases this
          exact .same ex y2
def pairT (p : PyData × PyData) : PyData := .tuple [p.1, p.2]
theorem i_zipT {ta : TA} (h : EvA b ta Γ Γ1 [.tuple ds, .tuple es]) : EvI b (RZ.iZipA b.K ta) Γ Γ1 [.tuple ds, .tuple es] ((ds.zip es).map pairT) := fun T τ σ H hs R r =>
  h T τ σ H hs _ fun vs H1 C h1 dv => by
    have dv2 := dv
    cases dv with | cons dx dv => cases dv with | cons dy dv => cases dv; cases dx with
      | tup hq ha => cases dy with
        | tup hq2 ha2 =>
          rename_i a xs a2 xs2
          refine ⟨a, a2, xs, xs2, rfl, .inr ⟨ex_t h1.ch hq, ex_t h1.ch hq2, r _ [.ref a, .ref a2] H1 C (fun C' H' ex dw => ?_) h1 dv2⟩⟩
          cases dw with | cons dz dw => cases dw with | cons dz2 _ => cases dz with
            | tup hq' ha' => cases dz2 with
              | tup hq2' ha2' =>
                have hl := dpa_len ha'
                have hl2 := dpa_len ha2'
                refine ⟨⟨_, _, ex_t ex hq', ex_t ex hq2', by simp; omega⟩, fun i di e => ?_⟩
                rw [List.getElem?_map] at e
                obtain ⟨⟨u1, u2⟩, e1, rfl⟩ := Option.map_eq_some_iff.mp e
                obtain ⟨e2, e3⟩ := List.getElem?_zip_eq_some.mp e1
                obtain ⟨y, y1, y2⟩ := dpa_get ha' e2
                obtain ⟨y', y1', y2'⟩ := dpa_get ha2' e3
                refine ⟨⟨_, _, y, y', ex_t ex hq', ex_t ex hq2', y1, y1'⟩, fun x H2 z => ?_⟩
                obtain ⟨P, z1, z2, rfl, nP, rfl, f1, f2⟩ := z
                have w1 := (f1 _ (ex_t ex hq')).symm.trans y1
                have w2 := (f2 _ (ex_t ex hq2')).symm.trans y1'
                cases w1; cases w2
                exact .tup ex (.cons y2 (.cons y2' .nil)) nP
end
end G
namespace G
open PySem PySem.Spec PyProof.Rows L2
open Evl (Ex ex_rd ex_l ex_t rMax2)
section
variable {b : Bs} {C : Hp} {T Γ Γ' Γ1 Γ2 : List Sl} {τ σ : L2.St} {H H' : Hp} {s s' : Sl} {v : V} {d e : PyData} {ds es : List PyData} {vs : List V}
/-! ### comprehensions -/
theorem wipe_get (σ : L2.St) : ∀ (vs : List Nat) (k : Nat), (wipe σ vs)[k]? = if k ∈ vs then (if k < σ.length then some none else none) else σ[k]?
  | [], k => by simp [wipe]
  | v :: vs, k => by
    unfold wipe
    rw [List.getElem?_set, wipe_get σ vs k, wipe_length]
    by_cases h : v = k
    · subst h; simp
    · rw [if_neg h]
      have : (k ∈ v :: vs) ↔ k ∈ vs := by simp [Ne.symm h]
      simp only [this]
theorem wipe_eq {σ σ' : L2.St} {vs : List Nat} (hl : σ'.length = σ.length) (h : ∀ k, k ∉ vs → σ'[k]? = σ[k]?) : wipe σ' vs = wipe σ vs := by
  refine List.ext_getElem? fun k => ?_
  rw [wipe_get, wipe_get, hl]
  by_cases hk : k ∈ vs
  · rw [if_pos hk, if_pos hk]
  · rw [if_neg hk, if_neg hk, h k hk]
theorem wipe_wipe (σ : L2.St) (vs : List Nat) : wipe (wipe σ vs) vs = wipe σ vs := wipe_eq (wipe_length _ _) fun k hk => by rw [wipe_get, if_neg hk]
/-- a target with the slots that it stores -/
def EvGv (b : Bs) (g : TG) (d : PyData) (js : List Nat) (Γ Γ' : List Sl) : Prop := ∀ T τ σ H x, Hs b (.dat d :: T) (some x :: τ) Γ σ H → ∀ Q : L2.St → Hp → Prop, (∀ σ', Hs b T τ Γ' σ' H → wipe σ' js = wipe σ js → Q σ' H) → g x σ H Q
theorem gv_name {i : Nat} : EvGv b (gName i) d [i] Γ (Γ.set i (.dat d)) := fun T τ σ H x hs Q q => q _ (hs.store i) (wipe_eq (by simp) fun k hk => by
  rw [List.getElem?_set_ne]
  simpa [eq_comm] using hk)
theorem gv_tup2 {K : PySem.W.Frag} (hK : b.K = K) {i j : Nat} {d e : PyData} : EvGv b (gTup K 2 (gCons (gName i) (gCons (gName j) gNil))) (.tuple [d, e]) [i, j] Γ ((Γ.set i (.dat d)).set j (.dat e)) := fun T τ σ H x hs Q q => by
  obtain ⟨C, dx, h⟩ := hs.pop
  subst hK
  cases dx with
  | tup hq ha =>
    rename_i a xs
    cases ha with
    | cons r1 ha =>
      cases ha with
      | cons r2 ha =>
        cases ha
        rename_i v1 v2
        refine ⟨a, _, rfl, ex_t h.ch hq, rfl, v1, _, rfl, v2, _, rfl, rfl, ?_⟩
        have s1 : Hs b (.dat d :: .dat e :: T) (some v1 :: some v2 :: τ) Γ σ H := ⟨C, (h.push r2).push r1⟩
        refine q _ ((s1.store i).store j) (wipe_eq (by simp) fun k hk => ?_)
        simp at hk
        rw [List.getElem?_set_ne (by omega), List.getElem?_set_ne (by omega)]
/-- slots of which nothing is said may hold anything -/
theorem has_unwipe {K : PySem.W.Frag} : ∀ {Γ : List Sl} {σ : L2.St} {ps : List Addr} {σ' : L2.St}, Has K C H Γ σ ps → σ'.length = σ.length → (∀ k : Nat, Γ[k]? ≠ some Sl.no → σ'[k]? = σ[k]?) → Has K C H Γ σ' ps
  | _, _, _, [], .nil, _, _ => .nil
  | _, _, _, y :: σ', .no h, l, f => .no (has_unwipe h (by simpa using l) fun k z => by simpa using f (k + 1) (by simpa using z))
  | _, _, _, y :: σ', .dat d h, l, f => by
    have e := f 0 (by simp)
    simp at e
    subst e
    exact .dat d (has_unwipe h (by simpa using l) fun k z => by simpa using f (k + 1) (by simpa using z))
  | _, _, _, y :: σ', .own y0 q d h, l, f => by
    have e := f 0 (by simp)
    simp at e
    subst e
    exact .own y0 q d (has_unwipe h (by simpa using l) fun k z => by simpa using f (k + 1) (by simpa using z))
theorem wipeG_get (Γ : List Sl) : ∀ (vs : List Nat) (k : Nat), k ∈ vs → (wipeG Γ vs)[k]? = some .no ∨ (wipeG Γ vs)[k]? = none
  | [], k, h => by cases h
  | v :: vs, k, h => by
    unfold wipeG
    rw [List.getElem?_set]
    by_cases e : v = k
    · subst e
      simp only [if_true]
      by_cases hl : v < (wipeG Γ vs).length
      · rw [if_pos hl]; exact .inl rfl
      · rw [if_neg hl]; exact .inr rfl
    · rw [if_neg e]
      rcases List.mem_cons.mp h with z | z
      · exact absurd z.symm e
      · exact wipeG_get Γ vs k z
theorem hs_unwipe {vs : List Nat} (h : Hs b T τ (wipeG Γ vs) (wipe σ vs) H) : Hs b T τ (wipeG Γ vs) σ H := by
  obtain ⟨C, ps, qs, c, h1, h2⟩ := h
  have hl := h2.len
  refine ⟨C, ps, qs, c, h1, has_unwipe h2 (wipe_length σ vs).symm fun k z => ?_⟩
  rw [wipe_get]
  by_cases hk : k ∈ vs
  · rcases wipeG_get Γ vs k hk with q | q
    · exact absurd q z
    · rw [List.getElem?_eq_none_iff, hl, wipe_length] at q
      rw [if_pos hk, if_neg (by omega), List.getElem?_eq_none_iff]; exact q
  · rw [if_neg hk]
theorem s_lc {wi : TI} {g : TG} {tt : TT} {te : TE} {vs : List Nat} {its : List PyData} (hI : EvI b wi Γ Γ1 ds its) (G G' G'' : Nat → List Sl) (c : Nat → Bool) (e : Nat → PyData) (h0 : G 0 = wipeG Γ1 vs)
    (hg : ∀ i di, its[i]? = some di → EvGv b g di vs (G i) (G' i)) (ht : ∀ i di, its[i]? = some di → EvT b tt (G' i) (G' i) (c i)) (he : ∀ i di, its[i]? = some di → c i = true → EvS b te (G' i) (G'' i) (.dat (e i)))
    (hs : ∀ i, i < its.length → wipeG (if c i then G'' i else G' i) vs = wipeG (G (i + 1)) vs ∧ wipeG (G (i + 1)) vs = G (i + 1)) (hz : its.length ≤ 100000) :
    EvS b (tLc wi g tt te vs) Γ (G its.length) (.own (((List.range its.length).filter c).map e)) := fun T τ σ H hs0 Q q => hI T τ σ H hs0 _ fun J ws H1 C ok h1 dv D hD => by
  have hl := dpa_len dv
  let acc : Nat → List PyData := fun i => ((List.range i).filter c).map e
  have hw : wipeG (G 0) vs = G 0 := by
    rw [h0]
    have aux : ∀ (Γ : List Sl) (us : List Nat) (k : Nat), k ∈ us → (wipeG Γ us).set k .no = wipeG Γ us := fun Γ us k hk => by
      refine List.ext_getElem? fun j => ?_
      rw [List.getElem?_set]
      by_cases ej : k = j
      · subst ej
        rw [if_pos rfl]
        rcases wipeG_get Γ us k hk with z | z
        · have := (List.getElem?_eq_some_iff.mp z).1
          rw [if_pos this, z]
        · have := List.getElem?_eq_none_iff.mp z
          rw [if_neg (by omega), z]
      · rw [if_neg ej]
    have aux2 : ∀ (ws us : List Nat) (Γ : List Sl), (∀ k ∈ ws, k ∈ us) → wipeG (wipeG Γ us) ws = wipeG Γ us := by
      intro ws
      induction ws with
      | nil => intro us Γ _; rfl
      | cons w ws ih =>
        intro us Γ hk
        show (wipeG (wipeG Γ us) ws).set w .no = _
        rw [ih us Γ fun k z => hk k (List.mem_cons_of_mem _ z)]
        exact aux Γ us w (hk w List.mem_cons_self)
    exact aux2 vs vs Γ1 fun _ z => z
  have hwi : ∀ i, i ≤ its.length → wipeG (G i) vs = G i := fun i hi => by
    cases i with
    | zero => exact hw
    | succ i => exact (hs i (by omega)).2
  have start : Hs b (ds.map Sl.dat ++ (.own [] :: T)) (ws.map some ++ (some (.ref D) :: τ)) (G 0) (wipe σ vs) (upd H1 D (.lst [])) := by
    rw [h0]
    have a1 : Hs b (.own [] :: T) (some (.ref D) :: τ) Γ1 σ (upd H1 D (.lst [])) := h1.step (Ret.lst h1.ch .nil hD)
    obtain ⟨C1, ps, qs, c1, g1, g2⟩ := hs_wipe a1 vs
    -- the walked data, still known
    have : ∃ C2, HsC b C2 (.own [] :: T) (some (.ref D) :: τ) (wipeG Γ1 vs) (wipe σ vs) (upd H1 D (.lst [])) ∧ DpAll b.K C2 ws ds := by
      have a2 : Hs b (.own [] :: (ds.map Sl.dat ++ T)) (some (.ref D) :: (ws.map some ++ τ)) Γ1 σ (upd H1 D (.lst [])) := (h1.pushAll dv).step (Ret.lst h1.ch .nil hD)
      obtain ⟨C2, ps2, qs2, c2, k1, k2⟩ := hs_wipe a2 vs
      cases k1 with
      | own y0 e0 d0 k1 =>
        have hh : HsC b C2 (ds.map Sl.dat ++ T) (ws.map some ++ τ) (wipeG Γ1 vs) (wipe σ vs) (upd H1 D (.lst [])) := ⟨_, qs2, c2.sub (fun p hp => List.mem_cons_of_mem _ hp) (List.nodup_cons.mp c2.nd).2, k1, k2⟩
        obtain ⟨dw, ps3, qs3, c3, m1, m2⟩ := HsC.popAll hl hh
        have popHas : ∀ {ws : List V} {ds : List PyData} {ps : List Addr}, ws.length = ds.length → Has b.K C2 (upd H1 D (.lst [])) (ds.map Sl.dat ++ T) (ws.map some ++ τ) ps → Has b.K C2 (upd H1 D (.lst [])) T τ ps := by
          intro ws
          induction ws with
          | nil => intro ds ps l h; cases ds with
            | nil => exact h
            | cons _ _ => cases l
          | cons w ws ih => intro ds ps l h; cases ds with
            | nil => cases l
            | cons d ds => cases h with
              | dat _ h => exact ih (by simpa using l) h
        exact ⟨C2, ⟨_, qs2, c2, .own y0 e0 d0 (popHas hl k1), k2⟩, dw⟩
    obtain ⟨C2, a3, dw⟩ := this
    exact ⟨C2, a3.pushAll dw⟩
  refine ⟨fun i m H' => i ≤ its.length ∧ m = its.length - i ∧ Hs b (ds.map Sl.dat ++ (.own (acc i) :: T)) (ws.map some ++ (some (.ref D) :: τ)) (G i) (wipe σ vs) H', ⟨_, Nat.zero_le _, rfl, start⟩, ?_⟩
  rintro i m H' ⟨hi, rfl, C', h2⟩
  obtain ⟨dv', h3⟩ := HsC.popAll hl h2
  obtain ⟨st, go⟩ := ok C' H' h3.ch dv'
  by_cases hlt : i < its.length
  · have hdi : its[i]? = some its[i] := by simp [hlt]
    obtain ⟨g1, g2⟩ := go i its[i] hdi
    refine .inr ⟨g1, fun H2 => Hs b (ds.map Sl.dat ++ (.own (acc (i + 1)) :: T)) (ws.map some ++ (some (.ref D) :: τ)) (G (i + 1)) (wipe σ vs) H2, fun H2 n => ⟨its.length - (i + 1), by omega, hlt, rfl, n⟩, fun x H2 y => ?_⟩
    refine hg i its[i] hdi _ _ _ _ _ (h2.step (g2 x H2 y)) _ fun σ2 h5 hw2 => ⟨by rw [hw2, wipe_wipe], ?_⟩
    refine ht i its[i] hdi _ _ σ2 H2 h5 _ fun H3 h6 => ?_
    have hsi := hs i hlt
    cases hc : c i with
    | true =>
      rw [hc] at hsi
      refine iteT (he i its[i] hdi hc _ _ σ2 H3 h6 _ fun y H4 h7 => ?_)
      obtain ⟨C4, dy, h8⟩ := h7.pop
      obtain ⟨dv4, h9⟩ := HsC.popAll hl h8
      obtain ⟨p, us, f1, f2, f3, f4⟩ := h9.own_top
      cases f1
      refine ⟨us, f2, ?_, ?_⟩
      · rw [dpa_len f3]
        refine Nat.lt_of_le_of_lt (?_ : _ ≤ 100000) (by decide)
        show (((List.range i).filter c).map e).length ≤ 100000
        rw [List.length_map]
        have := List.length_filter_le c (List.range i)
        rw [List.length_range] at this
        omega
      · have ea : acc (i + 1) = acc i ++ [e i] := by
          show ((List.range (i + 1)).filter c).map e = ((List.range i).filter c).map e ++ [e i]
          rw [List.range_succ, List.filter_append, List.map_append, List.filter_cons, if_pos hc]; rfl
        rw [ea]
        have h10 := hs_wipe ⟨C4, (f4 _ _ (dpa_app f3 (.cons dy .nil))).pushAll dv4⟩ vs
        rw [hw2, wipe_wipe] at h10
        have e2 : wipeG (G'' i) vs = G (i + 1) := by simpa using hsi.1.trans hsi.2
        rw [e2] at h10
        exact h10
    | false =>
      rw [hc] at hsi
      refine iteF ?_
      have ea : acc (i + 1) = acc i := by
        show ((List.range (i + 1)).filter c).map e = ((List.range i).filter c).map e
        rw [List.range_succ, List.filter_append, List.map_append, List.filter_cons, if_neg (by rw [hc]; decide)]; simp
      have h10 := hs_wipe h6 vs
      rw [hw2, wipe_wipe] at h10
      have e2 : wipeG (G' i) vs = G (i + 1) := by simpa using hsi.1.trans hsi.2
      rw [e2] at h10
      show Hs b (ds.map Sl.dat ++ (.own (acc (i + 1)) :: T)) _ (G (i + 1)) (wipe σ vs) H3
      rw [ea]
      exact h10
  · have e1 : i = its.length := by omega
    subst e1
    refine .inl ⟨st, q _ _ ?_⟩
    have := hs_unwipe (Γ := G its.length) (σ := σ) (vs := vs) (T := .own (acc its.length) :: T) (τ := some (.ref D) :: τ) (b := b) (H := H') ⟨C', by rw [hwi _ (Nat.le_refl _)]; exact h3⟩
    rw [hwi _ (Nat.le_refl _)] at this
    exact this
/-- no test, nothing changes: one item a turn -/
theorem s_map {α : Type} {wi : TI} {g : TG} {te : TE} {vs : List Nat} {ks : List α} {φ : α → PyData} (hI : EvI b wi Γ Γ1 ds (ks.map φ)) (G' : α → List Sl) (f : α → PyData)
    (hg : ∀ k ∈ ks, EvGv b g (φ k) vs (wipeG Γ1 vs) (G' k)) (he : ∀ k ∈ ks, EvS b te (G' k) (G' k) (.dat (f k))) (hs : ∀ k ∈ ks, wipeG (G' k) vs = wipeG (wipeG Γ1 vs) vs) (hw : wipeG (wipeG Γ1 vs) vs = wipeG Γ1 vs) (hz : ks.length ≤ 100000) :
    EvS b (tLc wi g tYes te vs) Γ (wipeG Γ1 vs) (.own (ks.map f)) := by
  cases ks with
  | nil =>
    have := s_lc (b := b) (tt := tYes) (te := te) (g := g) (vs := vs) hI (fun _ => wipeG Γ1 vs) (fun _ => []) (fun _ => []) (fun _ => true) (fun _ => .none) rfl (fun i di e => by simp at e) (fun i di e => by simp at e) (fun i di e => by simp at e) (fun i hi => by simp at hi) (by simp)
    simpa using this
  | cons k0 kr =>
    have hget : ∀ i di, ((k0 :: kr).map φ)[i]? = some di → ∃ k, (k0 :: kr)[i]? = some k ∧ φ k = di := fun i di e => by
      rw [List.getElem?_map] at e
      obtain ⟨k, hk, r⟩ := Option.map_eq_some_iff.mp e
      exact ⟨k, hk, r⟩
    have hD : ∀ i k, (k0 :: kr)[i]? = some k → (k0 :: kr).getD i k0 = k := fun i k e => by rw [List.getD_eq_getElem?_getD, e]; rfl
    have := s_lc (b := b) (tt := tYes) (te := te) (g := g) (vs := vs) hI (fun _ => wipeG Γ1 vs) (fun i => G' ((k0 :: kr).getD i k0)) (fun i => G' ((k0 :: kr).getD i k0)) (fun _ => true) (fun i => f ((k0 :: kr).getD i k0)) rfl
      (fun i di e => by obtain ⟨k, hk, rfl⟩ := hget i di e; rw [hD i k hk]; exact hg k (List.mem_of_getElem? hk)) (fun i di e => t_yes)
      (fun i di e _ => by obtain ⟨k, hk, rfl⟩ := hget i di e; rw [hD i k hk]; exact he k (List.mem_of_getElem? hk))
      (fun i hi => by
        have hi' : i < (k0 :: kr).length := by simpa using hi
        have hk : (k0 :: kr)[i]? = some (k0 :: kr)[i] := by simp [hi']
        refine ⟨?_, hw⟩
        simp only [if_true]
        rw [hD i _ hk]
        exact hs _ (List.getElem_mem hi')) (by simpa using hz)
    refine s_is this ?_
    congr 1
    refine List.ext_getElem? fun i => ?_
    rw [List.filter_eq_self.mpr (fun _ _ => rfl)]
    simp only [List.getElem?_map]
    by_cases hi : i < (k0 :: kr).length
    · have hk : (k0 :: kr)[i]? = some (k0 :: kr)[i] := by simp [hi]
      rw [hk, List.getElem?_range (by simpa using hi)]
      simp only [Option.map_some]
      rw [hD i _ hk]
    · rw [List.getElem?_eq_none_iff.mpr (by simpa using hi), List.getElem?_eq_none_iff.mpr (by simpa using hi)]; rfl
theorem range_getD {α : Type} (ks : List α) (k0 : α) : (List.range ks.length).map (fun i => ks.getD i k0) = ks := by
  refine List.ext_getElem? fun i => ?_
  rw [List.getElem?_map]
  by_cases hi : i < ks.length
  · rw [List.getElem?_range hi]
    simp [List.getD_eq_getElem?_getD, hi]
  · rw [List.getElem?_eq_none_iff.mpr (by simpa using hi), List.getElem?_eq_none_iff.mpr (by simpa using hi)]; rfl
theorem filt_getD {α β : Type} (ks : List α) (k0 : α) (c : α → Bool) (f : α → β) : ((List.range ks.length).filter (fun i => c (ks.getD i k0))).map (fun i => f (ks.getD i k0)) = (ks.filter c).map f := by
  have h := range_getD ks k0
  have e : (ks.filter c).map f = (((List.range ks.length).map (fun i => ks.getD i k0)).filter c).map f := by rw [h]
  rw [e, List.filter_map, List.map_map]
  rfl
/-- with a test -/
theorem s_filt {α : Type} {wi : TI} {g : TG} {tt : TT} {te : TE} {vs : List Nat} {ks : List α} {φ : α → PyData} (hI : EvI b wi Γ Γ1 ds (ks.map φ)) (G' : α → List Sl) (c : α → Bool) (f : α → PyData)
    (hg : ∀ k ∈ ks, EvGv b g (φ k) vs (wipeG Γ1 vs) (G' k)) (ht : ∀ k ∈ ks, EvT b tt (G' k) (G' k) (c k)) (he : ∀ k ∈ ks, c k = true → EvS b te (G' k) (G' k) (.dat (f k))) (hs : ∀ k ∈ ks, wipeG (G' k) vs = wipeG (wipeG Γ1 vs) vs) (hw : wipeG (wipeG Γ1 vs) vs = wipeG Γ1 vs) (hz : ks.length ≤ 100000) :
    EvS b (tLc wi g tt te vs) Γ (wipeG Γ1 vs) (.own ((ks.filter c).map f)) := by
  cases ks with
  | nil =>
    have := s_lc (b := b) (tt := tt) (te := te) (g := g) (vs := vs) hI (fun _ => wipeG Γ1 vs) (fun _ => []) (fun _ => []) (fun _ => true) (fun _ => .none) rfl (fun i di e => by simp at e) (fun i di e => by simp at e) (fun i di e => by simp at e) (fun i hi => by simp at hi) (by simp)
    simpa using this
  | cons k0 kr =>
    have hget : ∀ i di, ((k0 :: kr).map φ)[i]? = some di → ∃ k, (k0 :: kr)[i]? = some k ∧ φ k = di := fun i di e => by
      rw [List.getElem?_map] at e
      obtain ⟨k, hk, r⟩ := Option.map_eq_some_iff.mp e
      exact ⟨k, hk, r⟩
    have hD : ∀ i k, (k0 :: kr)[i]? = some k → (k0 :: kr).getD i k0 = k := fun i k e => by rw [List.getD_eq_getElem?_getD, e]; rfl
    have := s_lc (b := b) (tt := tt) (te := te) (g := g) (vs := vs) hI (fun _ => wipeG Γ1 vs) (fun i => G' ((k0 :: kr).getD i k0)) (fun i => G' ((k0 :: kr).getD i k0)) (fun i => c ((k0 :: kr).getD i k0)) (fun i => f ((k0 :: kr).getD i k0)) rfl
      (fun i di e => by obtain ⟨k, hk, rfl⟩ := hget i di e; rw [hD i k hk]; exact hg k (List.mem_of_getElem? hk)) (fun i di e => by obtain ⟨k, hk, rfl⟩ := hget i di e; rw [hD i k hk]; exact ht k (List.mem_of_getElem? hk))
      (fun i di e hc => by obtain ⟨k, hk, rfl⟩ := hget i di e; rw [hD i k hk] at hc ⊢; exact he k (List.mem_of_getElem? hk) hc)
      (fun i hi => by
        have hi' : i < (k0 :: kr).length := by simpa using hi
        have hk : (k0 :: kr)[i]? = some (k0 :: kr)[i] := by simp [hi']
        refine ⟨?_, hw⟩
        rw [ite_self, hD i _ hk]
        exact hs _ (List.getElem_mem hi')) (by simpa using hz)
    refine s_is this ?_
    rw [List.length_map]
    exact congrArg Sl.own (filt_getD (k0 :: kr) k0 c f)
end
end G
namespace PySem
open Sem (wp)
open AutoSeq1 (wpAny_loadPart')
theorem g_enumerate_newT (l : Addr) (items : Array Value) (n : Nat) (dct : Option Addr) (sl : Array (Option Value)) :
    Meets (Builtin.«enumerate.__new__» ⟨[.type "enumerate", .ref l], []⟩) (fun _ R s => s.heap.get? l = some { cls := .type "tuple", dict := dct, data := .seq items n, slots := sl } ∧
      R (.ok (.ret (.ref (s.heap.push { cls := .type "tuple_iterator", data := .fields #[.ref l, .int 0 0] }).objs.size)))
        { s with heap := (s.heap.push { cls := .type "tuple_iterator", data := .fields #[.ref l, .int 0 0] }).push { cls := .type "enumerate", data := .fields #[.none, .bool false, .ref s.heap.objs.size, rawInt 0, .none, .none] } }) :=
  .of_wp fun prog w A R s h => by
    obtain ⟨hp0, g, d, tkq, os⟩ := s; obtain ⟨ll, h⟩ := h
    have hsub := sub_enumerate
    have hLt : Heap.IsTuple (Shared.heap ⟨hp0, g, d, tkq, os⟩) l items := ⟨_, ll, rfl, n, rfl⟩
    wp_walk using wpAny_loadPart' ll
    refine wpAny_stack_any fun st => wpAny_pure ?_
    split
    · rename_i c _ _ _ _ _
      cases (c == Value.type "enumerate")
      · wp_walk using wpAny_loadPart' ll, wpAny_pyIter_tuple hLt
        exact ⟨_, rfl, h⟩
      · wp_walk using wpAny_loadPart' ll, wpAny_pyIter_tuple hLt
        exact ⟨_, rfl, h⟩
    · wp_walk using wpAny_loadPart' ll, wpAny_pyIter_tuple hLt
      exact ⟨_, rfl, h⟩
theorem g_call_enumerate_tuple {prog : Program} {w : World} {A : Around} {E : Value → Shared → Prop} {s : Shared} {l : Addr} {items : Array Value} {Q : Value → Shared → Prop} (hLt : s.heap.IsTuple l items)
    (h : ∀ hh, IsEnum hh (s.heap.objs.size + 1) s.heap.objs.size 0 .none → hh.IsTupleIter s.heap.objs.size l 0 → hh.objs.size = s.heap.objs.size + 2 →
      (∀ b o, s.heap.get? b = some o → hh.get? b = some o) → Q (.ref (s.heap.objs.size + 1)) { s with heap := hh }) :
    wpAny (model prog w) A (call (.type "enumerate") [.ref l]) Q E s := by
  obtain ⟨⟨c, dct, dt, sl⟩, ll, hcq, n, hdq⟩ := hLt
  replace hcq : c = .type "tuple" := hcq
  replace hdq : dt = .seq items n := hdq
  subst hcq hdq
  refine callType_new F.called_enumerate (by decide) (F.typeCall_enumerate_1 _) (F.newCall_enumerate_1 _) (fun obj => F.args_object_init_2 obj _) F.entry_enumerate_new
    (g_enumerate_newT l items n dct sl) ⟨ll, ?_⟩
  have zz : (s.heap.push { cls := .type "tuple_iterator", data := .fields #[.ref l, .int 0 0] }).objs.size = s.heap.objs.size + 1 := Heap.size_push ..
  show _ ∧ _
  rw [zz]
  have eE : IsEnum ((s.heap.push { cls := .type "tuple_iterator", data := .fields #[.ref l, .int 0 0] }).push
      { cls := .type "enumerate", data := .fields #[.none, .bool false, .ref s.heap.objs.size, rawInt 0, .none, .none] }) (s.heap.objs.size + 1) s.heap.objs.size 0 .none := by
    have := Heap.get?_push_size (s.heap.push { cls := .type "tuple_iterator", data := .fields #[.ref l, .int 0 0] })
      (o := { cls := .type "enumerate", data := .fields #[.none, .bool false, .ref s.heap.objs.size, rawInt 0, .none, .none] }) rfl
    rw [zz] at this; exact this
  refine ⟨⟨_, eE, rfl⟩, h _ eE ⟨_, Heap.get?_push_of_some _ (Heap.get?_push_size _ rfl), rfl, rfl⟩ (by rw [Heap.size_push, zz]) fun b o x => Heap.get?_push_of_some _ (Heap.get?_push_of_some _ x)⟩
end PySem
namespace G
open PySem PySem.Spec PyProof.Rows L2
open Evl (Ex ex_rd ex_l ex_t rMax2)
section
variable {X : Cx}
/-! ### a tuple times k, k from 1 on -/
theorem tuple_mul1 (l : Addr) (items : Array Value) (n : Nat) (dd : Option Addr) (sl : Array (Option Value)) (u : Tok) :
    Meets (Builtin.«tuple.__mul__» ⟨[.ref l, .int 1 u], []⟩) (fun _ R s => s.heap.get? l = some { cls := .type "tuple", dict := dd, data := .seq items n, slots := sl } ∧ R (.ok (.ret (Value.ref l))) s) :=
  .of_wp fun prog w A R s h => by
    obtain ⟨hp0, g, d, tkq, os⟩ := s
    obtain ⟨ll, h⟩ := h
    have w1 := AutoSeq1.idx_int
    have c1x : (items.isEmpty || (1 : Int) == 1) = true := by simp
    wp_walk using PySem.AutoSeq1.wpAny_loadPart' ll
    exact ⟨_, rfl, h⟩
def rRepA (K : PySem.W.Frag) : R2 := fun x y H Q => ∃ l k xs, x = .ref l ∧ y = .int k ∧ SqT K H l xs ∧ xs ≠ [] ∧ 1 ≤ k ∧ k ≤ 1000 ∧ xs.length ≤ 1000 ∧ (k = 1 → Q (.ref l) H) ∧ (k ≠ 1 → ∀ p, H p = none → Q (.ref p) (upd H p (.tup (List.replicate k.toNat xs).flatten)))
theorem op_repA : OpR X (binaryOp .Mult) (rRepA X.K) := by
  intro pins s σ H x y v u Q I rx ry h
  obtain ⟨l, k, xs, rfl, rfl, tyE, neE, h1, h2, zz, q1x, q2⟩ := h
  by_cases kk : k = 1
  · subst kk
    have q := q1x rfl
    cases rx
    obtain ⟨t, rfl⟩ := ry
    obtain ⟨uu, r, ⟨⟨cls, dd, data, sl⟩, oq, hcq, n, hdq⟩, hs⟩ := I.tuple tyE
    simp only at hcq hdq
    subst hcq hdq
    exact wpAny_binaryOp_repeat_ref (T := "tuple") (U := "int") (by decide) ⟨_, oq, rfl⟩ (fun s' => typeIs_int s' 1 t) noFill_tuple_mul F.fills_int_mul F.slot_int_rmul repeat_tuple F.slot_int_index.lookup
      (call_meets F.slot_int_rmul (typeIs_int s 1 t) F.entry_int_rmul (F.args_int_rmul_2 _ _) (int_rmul_tuple 1 t l uu.toArray n dd sl)
        ⟨oq, rfl, ⟨_, oq, rfl⟩, call_meets F.slot_tuple_mul ⟨_, oq, rfl⟩ F.entry_tuple_mul (F.args_tuple_mul_2 _ _) (tuple_mul1 l uu.toArray n dd sl t) ⟨oq, ⟨.ref l, H, I, rfl, q⟩⟩⟩)
  · exact op_repT pins s σ H _ _ v u Q I rx ry ⟨l, k, xs, rfl, rfl, tyE, neE, by omega, h2, zz, q2 kk⟩
/-! ### enumerate of a list or a tuple -/
def IteT (K : PySem.W.Frag) (a : Addr) : It :=
  ⟨fun i H => ∃ (xs : List V) (x : V), SqT K H a xs ∧ xs[i]? = some x, fun i H v H' => ∃ T x, v = .ref T ∧ H T = none ∧ H' = upd H T (.tup [.int (i : Nat), x]) ∧ ∀ xs, SqT K H a xs → xs[i]? = some x, fun i H => ∃ xs : List V, SqT K H a xs ∧ xs.length ≤ i⟩
theorem turn_enumT {P : Program} {w : World} {K : PySem.W.Frag} {elts : List Expr} {kk : Nat} {tpos : Pos} (a e it : Addr) :
    Turn P w K (.Tuple elts kk tpos) (IteT K a) [e, it] e (fun i h => (∃ prev, IsEnum h e it ((i : Nat) : Int) prev) ∧ h.IsTupleIter it a i ∧ e ≠ it) where
  mem := by simp
  obj := fun i h st b hbm => by
    obtain ⟨⟨prev, eE⟩, ⟨o, oq, hcq, hdq⟩, _⟩ := st
    have eq1 : b = e ∨ b = it := by simpa using hbm
    rcases eq1 with z | z
    · rw [z]; exact ⟨_, eE, fun v q => nomatch q⟩
    · rw [z]; exact ⟨o, oq, fun v q => by rw [hdq] at q; cases q⟩
  keep := fun i h hh st k => let ⟨⟨prev, eE⟩, hi, neE⟩ := st; ⟨⟨prev, k e (by simp) _ eE⟩, hi.at fun o q => k it (by simp) o q, neE⟩
  item := by
    intro X eP eW eK hcq i pins s σ H E I hfp st hgo
    subst eP eW eK
    obtain ⟨⟨prev, eE⟩, itE, neE⟩ := st
    obtain ⟨xs, x, rdq, atx⟩ := hgo
    obtain ⟨uu, pr, p, zz⟩ := I.tuple rdq
    obtain ⟨u, atu, rlu⟩ := pr.get atx
    have ltE : e < s.heap.objs.size := Heap.lt_size eE
    have ltI : it < s.heap.objs.size := by obtain ⟨_, q, _⟩ := itE; exact Heap.lt_size q
    have nai : a ≠ it := fun z => by
      subst z
      obtain ⟨o1, e1x, c1x, _⟩ := p
      obtain ⟨o2, e2, c2, _⟩ := itE
      rw [e1x] at e2; cases e2; rw [c1x] at c2; exact absurd c2 (by decide)
    have nae : a ≠ e := fun z => by
      subst z
      obtain ⟨o1, e1x, c1x, _⟩ := p
      have h2 : s.heap.get? a = some _ := eE
      rw [e1x] at h2; cases h2
      have c2 : Value.type "enumerate" = Value.type "tuple" := c1x
      exact absurd c2 (by decide)
    have tupA : s.heap.IsTuple a uu.toArray := p
    refine wpAny_pyNext_enum_itemD (Draws.tuple (A := X.A.in1) (I.ok.hd hcq) it a nai uu.toArray) eE ⟨itE, tupA⟩ (n := uu.toArray.size) (i := i) ?_ neE (by simp [neE, Ne.symm nae]) fun x' hh tkq pxq oq stq tyE szq kk => ?_
    · have := (List.getElem?_eq_some_iff.mp atu).1
      simpa using this
    · have exx : x' = u := by
        have q : uu.toArray[i]? = some x' := pxq
        have q2 : uu.toArray[i]? = some u := by simpa using atu
        rw [q] at q2; exact Option.some.inj q2
      subst exx
      refine ⟨_, rfl, wpAny_letOwnedTupleGo_enum (s := { s with heap := hh, toks := tkq + 1 }) oq fun hhh he' sbq => ?_⟩
      have tyE2 : hhh.get? s.heap.objs.size = some { cls := .type "tuple", data := .seq #[.int i tkq, x'] } := (sbq.2 _ (Nat.ne_of_gt ltE)).trans tyE
      have newq : ObjOk X.prog X.w (upd H s.heap.objs.size (.tup [.int (i : Nat), x])) hhh s.heap.objs.size (.tup [.int (i : Nat), x]) :=
        ⟨by show 2 ≤ sizeLine; decide, [.int i tkq, x'], .cons ⟨_, rfl⟩ (.cons rlu .nil), ⟨_, tyE2, rfl, _, rfl⟩⟩
      have J1 : Inv X pins σ (upd H s.heap.objs.size (.tup [.int (i : Nat), x])) { s with heap := hhh, toks := tkq + 1 } :=
        I.turnedNew (ch := [e, it]) (fun b ob hbm q => (sbq.2 b (fun z => hbm (by simp [z]))).trans (kk b ob (fun z => hbm (by simp [z])) (fun z => hbm (by simp [z])) q)) hfp (Nat.le_refl _) newq
      refine ⟨.ref s.heap.objs.size, _, J1, rfl, ⟨_, x, rfl, I.hok.fresh (Nat.le_refl _), rfl, fun ys hy => by rw [I.tuple_inj hy rdq]; exact atx⟩, ⟨⟨x', ?_⟩, stq.1.at fun o q => (sbq.2 it (Ne.symm neE)).trans q, neE⟩, fun b hbm => ?_⟩
      · have e1x : ((i + 1 : Nat) : Int) = (i : Int) + 1 := by omega
        rw [e1x]; exact he'
      · have hbq : b < s.heap.objs.size := by
          have eq1 : b = e ∨ b = it := by simpa using hbm
          rcases eq1 with z | z
          · rw [z]; exact ltE
          · rw [z]; exact ltI
        rw [upd_ne (Nat.ne_of_lt hbq)]
        exact (hfp b hbm).1
  done := by
    intro X eP eW eK hcq i pins s σ H E I hfp st hgo
    subst eP eW eK
    obtain ⟨⟨prev, eE⟩, itE, neE⟩ := st
    obtain ⟨xs, rdq, atx⟩ := hgo
    obtain ⟨uu, pr, p, zz⟩ := I.tuple rdq
    obtain ⟨w0, w1, w2, w3, w4, w5⟩ := hfp it (by simp)
    have ll := pr.length
    have tyE : s.TypeIs (.ref e) "enumerate" := ⟨_, eE, rfl⟩
    have tupA : s.heap.IsTuple a uu.toArray := p
    unfold pyNext
    refine wpAny_bind (wpAny_attempt (wpAny_callSpecial?_slot (name := Str.ofString "__next__") tyE F.slot_enumerate_next
      (wpAny_call_entry F.slot_enumerate_next tyE F.entry_enumerate_next ?_ (F.args_enumerate_next_1 _))))
    show wpAny _ _ (field (.ref e) 2 >>= _) _ _ _
    refine wpAny_bind (wpAny_field eE rfl (x := .ref it) rfl ?_)
    refine wpAny_bind (wpAny_nextOf_tuple_end (by exact I.ok.hd hcq) itE tupA (by simp; omega) fun hh x he' hx' => ?_)
    obtain ⟨o, oq, hc'⟩ := hx'
    refine wpAny_bind (wpAny_isInstance (T := "StopIteration") (b := true) ⟨o, oq, hc'⟩ isSubtype_stop ?_)
    exact wpAny_pure ⟨rfl, I.turned (t' := s.toks) (fun b o hbm q => he' b o hbm q) w0 w1 w3 w4 w5⟩
  self := fun A i s Q E st h => let ⟨⟨_, eE⟩, _⟩ := st; wpAny_pyIter_enum eE h
def iEnumA (K : PySem.W.Frag) (ta : TA) : TI := fun σ H R => ta σ H fun vs H1 => ∃ a xs, vs = [.ref a] ∧ ((SqL K H1 a xs ∧ R (Ite K a) H1) ∨ (SqT K H1 a xs ∧ R (IteT K a) H1))
theorem pi_enumA {e : Expr} {ta : TA} {p pos tpos : Pos} {elts : List Expr} {kk : Nat} (hgo : Gl X "enumerate") (mgx : X.mg "enumerate" = none) (hargs : PA X [e] ta) (hs : starEach [e] X.env = [(false, eval e X.env)] := by rfl) :
    PI X (.Tuple elts kk tpos) (.Call (.Name "enumerate" p) [e] [] pos) (iEnumA X.K ta) := by
  refine ⟨fun pins s σ H R I h => ?_⟩
  refine Call_ (ld_blt I hgo mgx boot_enumerate (PyProof.Rows.callWith_type1 (thn (hargs.run pos pins s σ H _ I h) fun us s1 ⟨vs, H1, J1, r1q, q1x⟩ => ?_) hs rfl))
  obtain ⟨a, xs, exx, q1x⟩ := q1x
  subst exx
  cases r1q with
  | cons r rrq =>
    cases rrq
    cases r
    have fin : ∀ b, b ∈ [s1.heap.objs.size + 1, s1.heap.objs.size] → FpOk X pins H1 b := fun b hbm => by
      have eq1 : b = s1.heap.objs.size + 1 ∨ b = s1.heap.objs.size := by simpa using hbm
      have leq1 : s1.heap.objs.size ≤ b := by
        rcases eq1 with z | z
        · rw [z]; exact Nat.le_add_right _ _
        · rw [z]; exact Nat.le_refl _
      exact J1.fpOk leq1 (J1.hok.fresh leq1)
    rcases q1x with ⟨rdq, q⟩ | ⟨rdq, q⟩
    · obtain ⟨uu, pr, p', zz⟩ := J1.list rdq
      refine call_enumerate_list p'.isList fun hh eE itE szq kk => wpAny_pyIter_enum eE ?_
      have J2 : Inv X pins σ H1 { s1 with heap := hh } := J1.kept (t' := s1.toks) kk
      exact ⟨s1.heap.objs.size + 1, [s1.heap.objs.size + 1, s1.heap.objs.size], _, _, H1, rfl, J2, turn_enum a (s1.heap.objs.size + 1) s1.heap.objs.size, ⟨⟨.none, eE⟩, itE, Nat.succ_ne_self _⟩, fin, q⟩
    · obtain ⟨uu, pr, p', zz⟩ := J1.tuple rdq
      refine g_call_enumerate_tuple (show s1.heap.IsTuple a uu.toArray from p') fun hh eE itE szq kk => wpAny_pyIter_enum eE ?_
      have J2 : Inv X pins σ H1 { s1 with heap := hh } := J1.kept (t' := s1.toks) kk
      exact ⟨s1.heap.objs.size + 1, [s1.heap.objs.size + 1, s1.heap.objs.size], _, _, H1, rfl, J2, turn_enumT a (s1.heap.objs.size + 1) s1.heap.objs.size, ⟨⟨.none, eE⟩, itE, Nat.succ_ne_self _⟩, fin, q⟩
/-! ### a product, one factor below 2 ^ 64 or both below a million bits together -/
theorem op_mulA : OpR X (binaryOp .Mult) (rI (fun i j => CMul i j ∨ CMulW i j) fun i j => .int (i * j)) := opI fun _ _ _ _ _ _ _ hc q => hc.elim (fun h => mul_int q h.ok) (fun h => mul_int q h.ok)
end
section
variable {b : Bs} {C : Hp} {T Γ Γ' Γ1 Γ2 : List Sl} {τ σ : L2.St} {H H' : Hp} {s s' : Sl} {v : V} {d e : PyData} {ds es : List PyData} {vs : List V}
theorem rd_repA {K : PySem.W.Frag} {k : Int} (h : ds ≠ []) (hz : ds.length ≤ 1000) (h1 : 1 ≤ k) (h2 : k ≤ 1000) : RD K (rRepA K) (.tuple ds) (.int k) (.dat (.tuple (List.replicate k.toNat ds).flatten)) := fun C H x y ex dx dy Q q => by
  cases dy
  have dx2 := dx
  cases dx with
  | tup hq ha =>
    rename_i a xs
    have hl := dpa_len ha
    refine ⟨a, k, xs, rfl, rfl, ex_t ex hq, fun z => h (by subst z; simpa using hl.symm), h1, h2, by omega, fun z => ?_, fun _ p hp => ?_⟩
    · subst z
      have : (List.replicate (1 : Int).toNat ds).flatten = ds := by simp
      rw [this] at q
      exact q _ _ (.same ex dx2)
    · refine q _ _ (.tup ex ?_ hp)
      generalize k.toNat = n
      induction n with
      | zero => exact .nil
      | succ n ih =>
        rw [List.replicate_succ, List.replicate_succ, List.flatten_cons, List.flatten_cons]
        exact dpa_app ha ih
def enumT (p : PyData × Nat) : PyData := .tuple [.int (p.2 : Int), p.1]
theorem i_enumT {ta : TA} (h : EvA b ta Γ Γ1 [.tuple ds]) : EvI b (iEnumA b.K ta) Γ Γ1 [.tuple ds] (ds.zipIdx.map enumT) := fun T τ σ H hs R r =>
  h T τ σ H hs _ fun vs H1 C h1 dv => by
    have dv2 := dv
    obtain ⟨v, rfl, dx⟩ := dpa1 dv
    cases dx with
    | tup hq ha =>
      rename_i a xs
      refine ⟨a, xs, rfl, .inr ⟨ex_t h1.ch hq, r _ [.ref a] H1 C (fun C' H' ex dw => ?_) h1 dv2⟩⟩
      obtain ⟨v', e1, dz⟩ := dpa1 dw
      cases e1
      cases dz with
      | tup hq' ha' =>
        have hl := dpa_len ha'
        refine ⟨⟨_, ex_t ex hq', by simp; omega⟩, fun i di e => ?_⟩
        rw [List.getElem?_map] at e
        obtain ⟨⟨u1, u2⟩, e1, rfl⟩ := Option.map_eq_some_iff.mp e
        rw [List.getElem?_zipIdx] at e1
        obtain ⟨z, e2, e3⟩ := Option.map_eq_some_iff.mp e1
        cases e3
        obtain ⟨y, y1, y2⟩ := dpa_get ha' e2
        refine ⟨⟨_, y, ex_t ex hq', y1⟩, fun x H2 z2 => ?_⟩
        obtain ⟨P, z1, rfl, nP, rfl, f1⟩ := z2
        have w1 := (f1 _ (ex_t ex hq')).symm.trans y1
        cases w1
        have : ((0 + i : Nat) : Int) = (i : Int) := by omega
        exact .tup ex (.cons (this ▸ .int _) (.cons y2 .nil)) nP
end
end G
namespace G
open PySem PySem.Spec PyProof.Rows L2
open Evl (Ex ex_rd ex_l ex_t rMax2)
abbrev ti (xs : List Int) : PyData := .tuple (xs.map .int)
abbrev li (xs : List Int) : PyData := .list (xs.map .int)
theorem eqv_int (i j : Int) : PyData.eqv (.int i) (.int j) = decide (i = j) := by
  rw [PyData.eqv]
  by_cases h : i = j <;> simp [h]
theorem eqv_bool (i j : Bool) : PyData.eqv (.bool i) (.bool j) = decide (i = j) := by
  rw [PyData.eqv]
  cases i <;> cases j <;> rfl
theorem eqv_str (i j : Str) : PyData.eqv (.str i) (.str j) = decide (i = j) := by
  rw [PyData.eqv]
  by_cases h : i = j <;> simp [h]
theorem eqvAll_ints : ∀ xs ys : List Int, PyData.eqvAll (xs.map .int) (ys.map .int) = decide (xs = ys)
  | [], [] => by simp [PyData.eqvAll]
  | [], _ :: _ => by simp [PyData.eqvAll]
  | _ :: _, [] => by simp [PyData.eqvAll]
  | x :: xs, y :: ys => by
    rw [List.map_cons, List.map_cons, PyData.eqvAll, eqv_int, eqvAll_ints xs ys]
    by_cases h : x = y <;> by_cases h2 : xs = ys <;> simp [h, h2]
theorem eqv_ti (xs ys : List Int) : PyData.eqv (ti xs) (ti ys) = decide (xs = ys) := by rw [PyData.eqv]; exact eqvAll_ints xs ys
theorem eqv_li (xs ys : List Int) : PyData.eqv (li xs) (li ys) = decide (xs = ys) := by rw [PyData.eqv]; exact eqvAll_ints xs ys
theorem lay_ints : ∀ xs : List Int, PyData.canLayAll0 (xs.map .int) = true
  | [] => by simp [PyData.canLayAll0]
  | x :: xs => by rw [List.map_cons, PyData.canLayAll0, lay_ints xs]; simp [PyData.canLay0]
theorem dep_ints : ∀ xs : List Int, PyData.depthAll (xs.map .int) ≤ 1
  | [] => by simp [PyData.depthAll]
  | x :: xs => by
    rw [List.map_cons, PyData.depthAll]
    have := dep_ints xs
    simp only [PyData.depth]
    omega
theorem sh_int (i : Int) : SeqAt.shaped (.int i) = true := by simp [SeqAt.shaped, PyData.canLay0, PyData.depth]
theorem sh_bool (i : Bool) : SeqAt.shaped (.bool i) = true := by simp [SeqAt.shaped, PyData.canLay0, PyData.depth]
theorem sh_none : SeqAt.shaped .none = true := by simp [SeqAt.shaped, PyData.canLay0, PyData.depth]
theorem sh_ti (xs : List Int) : SeqAt.shaped (ti xs) = true := by
  have := dep_ints xs
  unfold SeqAt.shaped
  rw [PyData.canLay0, lay_ints, PyData.depth]
  simp; omega
theorem sh_li (xs : List Int) : SeqAt.shaped (li xs) = true := by
  have := dep_ints xs
  unfold SeqAt.shaped
  rw [PyData.canLay0, lay_ints, PyData.depth]
  simp; omega
section
variable {K : PySem.W.Frag} {i j : Int} {xs ys : List Int}
theorem rd_eqI : RD K (rEqD K) (.int i) (.int j) (.dat (.bool (decide (i = j)))) := by
  have := rd_eqD (K := K) (sh_int i) (sh_int j)
  rwa [eqv_int] at this
theorem rd_neI : RD K (rNeD K) (.int i) (.int j) (.dat (.bool (!decide (i = j)))) := by
  have := rd_neD (K := K) (sh_int i) (sh_int j)
  rwa [eqv_int] at this
theorem rd_eqB {i j : Bool} : RD K (rEqD K) (.bool i) (.bool j) (.dat (.bool (decide (i = j)))) := by
  have := rd_eqD (K := K) (sh_bool i) (sh_bool j)
  rwa [eqv_bool] at this
theorem rd_neB {i j : Bool} : RD K (rNeD K) (.bool i) (.bool j) (.dat (.bool (!decide (i = j)))) := by
  have := rd_neD (K := K) (sh_bool i) (sh_bool j)
  rwa [eqv_bool] at this
theorem rd_eqT : RD K (rEqD K) (ti xs) (ti ys) (.dat (.bool (decide (xs = ys)))) := by
  have := rd_eqD (K := K) (sh_ti xs) (sh_ti ys)
  rwa [eqv_ti] at this
theorem rd_neT : RD K (rNeD K) (ti xs) (ti ys) (.dat (.bool (!decide (xs = ys)))) := by
  have := rd_neD (K := K) (sh_ti xs) (sh_ti ys)
  rwa [eqv_ti] at this
theorem rd_eqL : RD K (rEqD K) (li xs) (li ys) (.dat (.bool (decide (xs = ys)))) := by
  have := rd_eqD (K := K) (sh_li xs) (sh_li ys)
  rwa [eqv_li] at this
theorem rd_neL : RD K (rNeD K) (li xs) (li ys) (.dat (.bool (!decide (xs = ys)))) := by
  have := rd_neD (K := K) (sh_li xs) (sh_li ys)
  rwa [eqv_li] at this
theorem atI_ints (h0 : 0 ≤ i) (h1 : i < xs.length) : atI (xs.map PyData.int) i = some (.int (xs.getD i.toNat 0)) := by
  refine atI_ok h0 ?_
  rw [List.getElem?_map, List.getElem?_eq_getElem (by omega), Option.map_some, List.getD_eq_getElem?_getD, List.getElem?_eq_getElem (by omega)]
  rfl
theorem rd_ixTi (h0 : 0 ≤ i) (h1 : i < xs.length) : RD K (rIx K) (ti xs) (.int i) (.dat (.int (xs.getD i.toNat 0))) := rd_ixT (atI_ints h0 h1)
theorem rd_ixLi (h0 : 0 ≤ i) (h1 : i < xs.length) : RD K (rIx K) (li xs) (.int i) (.dat (.int (xs.getD i.toNat 0))) := rd_ixL (atI_ints h0 h1)
theorem cd_lenTi : CD K (rLen K) [ti xs] (.dat (.int xs.length)) := by
  have := cd_lenT (K := K) (ds := xs.map .int)
  rwa [List.length_map] at this
theorem cd_lenLi : CD K (rLen K) [li xs] (.dat (.int xs.length)) := by
  have := cd_lenL (K := K) (ds := xs.map .int)
  rwa [List.length_map] at this
end
/-! ### less is known -/
def wk : List Sl → List Sl → Prop
  | [], [] => True
  | s :: Γ, s' :: Γ' => (s' = s ∨ s' = .no) ∧ wk Γ Γ'
  | _, _ => False
theorem has_wk {K : PySem.W.Frag} {C H : Hp} : ∀ {Γ Γ' : List Sl} {σ : L2.St} {ps : List Addr}, wk Γ Γ' → Has K C H Γ σ ps → ∃ qs, Has K C H Γ' σ qs ∧ qs.Sublist ps
  | [], [], _, _, _, h => ⟨_, h, List.Sublist.refl _⟩
  | s :: Γ, s' :: Γ', _, _, ⟨e, w⟩, h => by
    have go : ∀ {x : Option V} {σ : L2.St} {ps : List Addr}, Has K C H Γ σ ps → ∃ qs, Has K C H (.no :: Γ') (x :: σ) qs ∧ qs.Sublist ps := fun h => by
      obtain ⟨qs, h1, h2⟩ := has_wk w h
      exact ⟨qs, .no h1, h2⟩
    rcases e with rfl | rfl
    · cases h with
      | no h => exact go h
      | dat d h => obtain ⟨qs, h1, h2⟩ := has_wk w h; exact ⟨qs, .dat d h1, h2⟩
      | own y e d h => obtain ⟨qs, h1, h2⟩ := has_wk w h; exact ⟨_, .own y e d h1, h2.cons_cons _⟩
    · cases h with
      | no h => exact go h
      | dat d h => exact go h
      | own y e d h => obtain ⟨qs, h1, h2⟩ := go h; exact ⟨qs, h1, h2.cons _⟩
theorem hs_wk {b : Bs} {T Γ Γ' : List Sl} {τ σ : L2.St} {H : Hp} (w : wk Γ Γ') (h : Hs b T τ Γ σ H) : Hs b T τ Γ' σ H := by
  obtain ⟨C, ps, qs, c, h1, h2⟩ := h
  obtain ⟨rs, h3, h4⟩ := has_wk w h2
  exact ⟨C, ps, rs, c.sub (fun p hp => (List.Sublist.append_left h4 ps).subset hp) (c.nd.sublist (List.Sublist.append_left h4 ps)), h1, h3⟩
theorem n_end {b : Bs} {T Γ Γ' : List Sl} {τ : L2.St} (w : wk Γ Γ') : Nx b (fun σ H => Hs b T τ Γ' σ H) T τ Γ := fun _ _ h => hs_wk w h
theorem n_wk {b : Bs} {T Γ Γ' : List Sl} {τ : L2.St} {N : L2.St → Hp → Prop} (w : wk Γ Γ') (k : Nx b N T τ Γ') : Nx b N T τ Γ := fun _ _ h => k _ _ (hs_wk w h)
/-! ### statements that go on -/
def StS (b : Bs) (t : TS) (Γ Γ' : List Sl) : Prop := ∀ (D : Ends) (T : List Sl) (τ : L2.St), Nx b D.nx T τ Γ' → Nx b (t D) T τ Γ
section
variable {b : Bs} {T Γ Γ' Γ1 Γ2 : List Sl} {τ : L2.St} {D : Ends} {t u : TS} {te : TE} {s : Sl} {d : PyData} {ds : List PyData}
theorem n_go (h : StS b t Γ Γ1) (k : Nx b (u D) T τ Γ1) : Nx b (tSeq t u D) T τ Γ := h { D with nx := u D } T τ k
theorem n_stop {c : TT} (h : EvT b c Γ Γ1 false) (k : Nx b (u D) T τ Γ1) : Nx b (tSeq (tIfS c t tNext) u D) T τ Γ := n_if (D := { D with nx := u D }) h (fun z => by cases z) fun _ => k
theorem n_leave {c : TT} (h : EvT b c Γ Γ1 true) (k : Nx b (tRet te D) T τ Γ1) : Nx b (tSeq (tIfS c (tRet te) t) u D) T τ Γ := n_if (t := tRet te) (D := { D with nx := u D }) h (fun _ => k) fun z => by cases z
theorem n_fork {c : TT} {k : Bool} (h : EvT b c Γ Γ1 k) (h1 : k = true → Nx b (tRet te D) T τ Γ1) (h2 : k = false → Nx b (u D) T τ Γ1) : Nx b (tSeq (tIfS c (tRet te) tNext) u D) T τ Γ :=
  n_if (t := tRet te) (u := tNext) (D := { D with nx := u D }) h (fun z => h1 z) fun z => h2 z
theorem st_set {i : Nat} (h : EvS b te Γ Γ1 s) : StS b (tAsg te (gName i)) Γ (Γ1.set i s) := fun D T τ k => n_set h k
theorem st_drop (h : EvS b te Γ Γ1 s) : StS b (tDrop te) Γ Γ1 := fun D T τ k => n_drop h k
theorem st_append {i : Nat} {z : Option Addr} (h : Γ[i]? = some (.ownq z ds)) (he : EvS b te Γ Γ (.dat d)) (hz : ds.length < 100000) : StS b (tDrop (tBM b.K "list" rAppend (tVar i) (tCons te tNil))) Γ (Γ.set i (.ownq z (ds ++ [d]))) := fun D T τ k => n_append h he hz k
theorem st_setL {i j : Nat} {k : Int} {tb : TE} {z : Option Addr} (h : Γ[i]? = some (.ownq z ds)) (he : EvS b te Γ Γ (.dat d)) (hb : EvS b tb Γ Γ (.dat (.int k))) (hj : ixN ds.length k = some j) :
    StS b (tAsg te (gSub (tVar i) tb rSetL)) Γ (Γ.set i (.ownq z (ds.set j d))) := fun D T τ k => n_setL h he hb hj k
theorem st_seq (h : StS b t Γ Γ1) (h2 : StS b u Γ1 Γ2) : StS b (tSeq t u) Γ Γ2 := fun D T τ k => h { D with nx := u D } T τ (h2 D T τ k)
theorem st_next : StS b tNext Γ Γ := fun D T τ k => k
theorem st_if {c : TT} {k : Bool} (h : EvT b c Γ Γ1 k) (h1 : k = true → StS b t Γ1 Γ2) (h2 : k = false → StS b u Γ1 Γ2) : StS b (tIfS c t u) Γ Γ2 := fun D T τ q => n_if h (fun z => h1 z D T τ q) fun z => h2 z D T τ q
theorem st_wk (w : wk Γ1 Γ2) (h : StS b t Γ Γ1) : StS b t Γ Γ2 := fun D T τ k => h D T τ (n_wk w k)
theorem st_is (h : StS b t Γ Γ1) (e : Γ1 = Γ2) : StS b t Γ Γ2 := e ▸ h
theorem st_for {wi : TI} {g : TG} {tb : TS} {ds its : List PyData} (hI : EvI b wi Γ Γ1 ds its) (G G' : Nat → List Sl) (h0 : wk Γ1 (G 0)) (hg : ∀ i di, its[i]? = some di → EvG b g di (G i) (G' i))
    (hb : ∀ i di, its[i]? = some di → StS b tb (G' i) (G (i + 1))) : StS b (tFor wi g tb) Γ (G its.length) := fun D T τ k => by
  have hI' : EvI b wi Γ (G 0) ds its := fun T τ σ H hs R r => hI T τ σ H hs R fun J vs H' C ok h dv => by
    obtain ⟨ps, qs, c, h1, h2⟩ := h
    obtain ⟨rs, h3, h4⟩ := has_wk h0 h2
    exact r J vs H' C ok ⟨ps, rs, c.sub (fun p hp => (List.Sublist.append_left h4 ps).subset hp) (c.nd.sublist (List.Sublist.append_left h4 ps)), h1, h3⟩ dv
  exact n_for hI' G G' rfl hg (fun i di vs hv e => hb i di e _ _ _ n_hs) k
end
/-! ### a def -/
def Γ0 (n : Nat) (ds : List PyData) : List Sl := ds.map Sl.dat ++ List.replicate (n - ds.length) Sl.no
theorem has_dats {K : PySem.W.Frag} {C H : Hp} {Γ : List Sl} {σ : L2.St} {ps : List Addr} (h : Has K C H Γ σ ps) : ∀ {vs : List V} {ds : List PyData}, DpAll K C vs ds → Has K C H (ds.map Sl.dat ++ Γ) (vs.map some ++ σ) ps
  | _, _, .nil => h
  | _, _, .cons r t => .dat r (has_dats h t)
theorem has_no {K : PySem.W.Frag} {C H : Hp} : ∀ n : Nat, Has K C H (List.replicate n Sl.no) (List.replicate n none) []
  | 0 => .nil
  | n + 1 => .no (has_no n)
theorem fn_ok {P : Program} {w : World} {K : PySem.W.Frag} {mg : Str → Option Value} {base : Heap} {x qual : Str} {st : Stmt} {f : Addr} {fd : FuncData} {N ps : List Str} {k : Nat} {gr : List PyData → Sl → Prop} {tr : PySem.W.Frag → TS}
    (F : Fun K x qual st f fd) (S : FnScope N ps (defScope st)) (len : ∀ ds s, gr ds s → ds.length = ps.length)
    (pst : ∀ (cdv : Value) (A : Around) (outer : List Env) (s : Shared) (H : Hp) (E : XK), Room k (A.deeper (envOfC qual (defScope st) s.heap.objs.size f cdv)) → PSs (cxOf CX0 P w K mg base N qual (defScope st) f cdv A outer s H E).nox (defBody st) (tr K))
    (rd : ∀ (b : Bs) (D : Ends) ds s, gr ds s → (∀ v H', Ret b.K b.H0 b.B s v H' → D.rt v H') → (∀ σ H, D.rt .non H → D.nx σ H) → Nx b (tr b.K D) [] [] (Γ0 N.length ds)) :
    FnOk P w K mg base CX0 (k + 1) f fd ps (spP K gr) := by
  refine F.ok S (fun vs H Q E h => ?_) (fun cdv A outer s H vs Q E hr h => ?_)
  · obtain ⟨C, ds, s, e, dv, g, q⟩ := h
    rw [dpa_len dv]; exact len ds s g
  · obtain ⟨C, ds, sl, e, dv, g, q⟩ := h
    refine ⟨_, pst cdv A outer s H E hr, ?_⟩
    refine rd ⟨K, H, C⟩ _ ds sl g q (fun _ _ h => h) _ _ ⟨C, [], [], ⟨Ex.refl C, e, Ex.refl H, fun _ _ z => z, (fun p hp => by cases hp), List.nodup_nil⟩, .nil, ?_⟩
    unfold L2.start Γ0
    rw [dpa_len dv]
    exact has_dats (has_no _) dv
end G
namespace G
open PySem PySem.Spec PyProof.Rows L2
open Evl (Ex ex_rd ex_l ex_t rMax2)
/-! ### a def that is lent a list (its first argument) and changes it -/
def RetM (K : PySem.W.Frag) (H C : Hp) (p : Addr) (ds' : List PyData) (s : Sl) (v : V) (H' : Hp) : Prop :=
  ∃ C' rs vs', Ex C C' ∧ Ex C' H' ∧ (∀ a o, a ≠ p → H a = some o → H' a = some o) ∧ (∀ a, H a ≠ none → C a = none → C' a = none) ∧ Has K C' H' [s] [some v] rs ∧ (∀ q ∈ rs, C' q = none ∧ H q = none) ∧ H' p = some (.lst vs') ∧ DpAll K C' vs' ds'
def RetB (b : Bs) (p : Addr) (ds' : List PyData) (s : Sl) (v : V) (H' : Hp) : Prop :=
  ∃ C' rs vs', Ex b.B C' ∧ Ex C' H' ∧ Ex b.H0 H' ∧ (∀ a, b.H0 a ≠ none → b.B a = none → C' a = none) ∧ C' p = none ∧ Has b.K C' H' [s] [some v] rs ∧ (∀ q ∈ rs, C' q = none ∧ b.H0 q = none ∧ q ≠ p) ∧ H' p = some (.lst vs') ∧ DpAll b.K C' vs' ds'
def spM (K : PySem.W.Frag) (f : List PyData → List PyData → List PyData → Sl → Prop) : Sp := fun vs H Q _ => ∃ C p vs0 rest ds args ds' s, vs = .ref p :: rest ∧ H p = some (.lst vs0) ∧ C p = none ∧ Ex C H ∧ DpAll K C vs0 ds ∧ DpAll K C rest args ∧
  f ds args ds' s ∧ ∀ v H', RetM K H C p ds' s v H' → Q v H'
theorem Has.own_z {K : PySem.W.Frag} {C H : Hp} {Γ : List Sl} {σ : L2.St} {ps : List Addr} (h : Has K C H Γ σ ps) : ∀ {i : Nat} {z : Option Addr} {ds : List PyData}, Γ[i]? = some (.ownq z ds) → ∃ p, σ[i]? = some (some (.ref p)) ∧ p ∈ ps ∧ ∀ r, z = some r → r = p := by
  induction h with
  | nil => intro i z ds e; simp at e
  | no q ih =>
    intro i z ds e
    cases i with
    | zero => simp at e
    | succ i => obtain ⟨p, h1, h2, h3⟩ := ih (by simpa using e); exact ⟨p, by simpa using h1, h2, h3⟩
  | dat dd q ih =>
    intro i z ds e
    cases i with
    | zero => simp at e
    | succ i => obtain ⟨p, h1, h2, h3⟩ := ih (by simpa using e); exact ⟨p, by simpa using h1, h2, h3⟩
  | own y0 e0 d0 q ih =>
    intro i z ds e
    cases i with
    | zero => simp at e; obtain ⟨rfl, rfl⟩ := e; exact ⟨_, rfl, List.mem_cons_self, y0⟩
    | succ i => obtain ⟨p, h1, h2, h3⟩ := ih (by simpa using e); exact ⟨p, by simpa using h1, List.mem_cons_of_mem _ h2, h3⟩
section
variable {b : Bs} {C : Hp} {T Γ Γ' Γ1 Γ2 : List Sl} {τ σ : L2.St} {H H' : Hp} {s s' : Sl} {v : V} {d e : PyData} {ds ds' es args : List PyData} {vs : List V}
theorem HsC.stepM {i : Nat} {z : Option Addr} {p : Addr} (h : HsC b C T τ Γ σ H) (e : Γ[i]? = some (.ownq z ds)) (ep : σ[i]? = some (some (.ref p))) (r : RetM b.K H C p ds' s v H') : Hs b (s :: T) (some v :: τ) (Γ.set i (.ownq z ds')) σ H' := by
  obtain ⟨ps, qs, c, h1, h2⟩ := h
  obtain ⟨C', rs, vs', e1, e2, e3, fr, h3, ow, hp', dv'⟩ := r
  have nd := List.nodup_append.mp c.nd
  obtain ⟨p1, g1, g2, g3⟩ := h2.own_z e
  have ep1 : p1 = p := by
    rw [ep] at g1
    injection g1 with g1; injection g1 with g1; injection g1 with g1; exact g1.symm
  subst ep1
  have hsome : ∀ q ∈ ps ++ qs, ∃ xs, H q = some (.lst xs) := fun q hq => by
    rcases List.mem_append.mp hq with y | y
    · exact h1.own_some q y
    · exact h2.own_some q y
  have hCn : ∀ q ∈ ps ++ qs, C' q = none := fun q hq => by
    obtain ⟨xs, hx⟩ := hsome q hq
    exact fr q (by rw [hx]; intro y; cases y) (c.ow q hq).1
  have hpT : ∀ q ∈ ps, q ≠ p1 := fun q hq => nd.2.2 q hq p1 g2
  have hT : Has b.K C' H' (s :: T) (some v :: τ) (rs ++ ps) := by
    have h1' := h1.mono e1 (fun q hq o y => e3 q o (hpT q hq) y)
    cases h3 with
    | no y => cases y; exact .no h1'
    | dat q y => cases y; exact .dat q h1'
    | own y0 q q2 y => cases y; exact .own y0 q q2 h1'
  have h2' := h2.mono (C' := C') (H' := H) e1 (fun _ _ _ y => y)
  obtain ⟨p2, vs2, k1, k2, k3, k4, k5⟩ := h2'.own_at e nd.2.1
  have ep2 : p2 = p1 := by
    rw [ep] at k1
    injection k1 with k1; injection k1 with k1; injection k1 with k1; exact k1.symm
  subst ep2
  have h5 := (k5 vs' ds' dv').mono (C' := C') (H' := H') (Ex.refl C') (fun q hq o y => by
    by_cases hqp : q = p2
    · subst hqp; rw [upd_same] at y; cases y; exact hp'
    · rw [upd_ne hqp] at y; exact e3 q o hqp y)
  refine ⟨C', rs ++ ps, qs, ⟨c.bc.trans e1, e2, fun a o y => e3 a o (fun y2 => ?_) (c.h0 a o y), fun a y1 y2 => ?_, fun q hq => ?_, ?_⟩, hT, h5⟩
  · rw [y2, (c.ow p2 (List.mem_append_right _ g2)).2] at y; cases y
  · refine fr a (fun q => ?_) (c.fr a y1 y2)
    cases z1 : b.H0 a with
    | none => exact y1 z1
    | some o => rw [c.h0 a o z1] at q; cases q
  · rw [List.append_assoc] at hq
    rcases List.mem_append.mp hq with y | y
    · exact ⟨(ow q y).1, ex_none c.h0 (ow q y).2⟩
    · exact ⟨hCn q y, (c.ow q y).2⟩
  · rw [List.append_assoc]
    refine List.nodup_append.mpr ⟨?_, c.nd, fun q hq q' hq' eq => ?_⟩
    · cases h3 with
      | no y => cases y; exact List.nodup_nil
      | dat _ y => cases y; exact List.nodup_nil
      | own _ _ _ y => cases y; simp
    · subst eq
      obtain ⟨xs, hx⟩ := hsome q hq'
      rw [(ow q hq).2] at hx; cases hx
theorem s_callM {i : Nat} {z : Option Addr} {ta : TA} {f : List PyData → List PyData → List PyData → Sl → Prop} {E : XK} (h : Γ[i]? = some (.ownq z ds)) (ha : EvA b ta Γ Γ args) (hf : f ds args ds' s) :
    EvS b (tCall (spM b.K f) [] E (tCons (tVar i) ta)) Γ (Γ.set i (.ownq z ds')) s := fun T τ σ H hs Q q => by
  obtain ⟨C0, hs0⟩ := hs
  obtain ⟨p, vs0, g1, g2, g3, _⟩ := hs0.own_at h
  refine ⟨.ref p, g1, ha T τ σ H ⟨C0, hs0⟩ _ fun rest H1 C h1 dv => ?_⟩
  obtain ⟨p', vs1, f1, f2, f3, _⟩ := h1.own_at h
  rw [g1] at f1
  cases f1
  have hC : C p = none := by
    obtain ⟨ps, qs, c, k1, k2⟩ := h1
    obtain ⟨p1, m1, m2, _⟩ := k2.own_z h
    rw [g1] at m1
    cases m1
    exact (c.ow p (List.mem_append_right _ m2)).1
  rw [List.append_nil]
  exact ⟨C, p, vs1, rest, ds, args, ds', s, rfl, f2, hC, h1.ch, f3, dv, hf, fun v H' r => q v H' (h1.stepM h g1 r)⟩
theorem n_retM {te : TE} {D : Ends} {p : Addr} {i : Nat} (h : EvS b te Γ Γ1 s) (e : Γ1[i]? = some (.ownq (some p) ds')) (k : ∀ v H', RetB b p ds' s v H' → D.rt v H') : Nx b (tRet te D) T τ Γ := fun σ H hs => h T τ σ H hs _ fun v H' h' => by
  refine k v H' ?_
  obtain ⟨C, ps, qs, c, h1, h2⟩ := h'
  have nd := List.nodup_append.mp c.nd
  obtain ⟨p1, vs1, g1, g2, g3, g4, _⟩ := h2.own_at e nd.2.1
  obtain ⟨p2, k1, k2, k3⟩ := h2.own_z e
  have e2 := k3 p rfl
  subst e2
  rw [k1] at g1
  cases g1
  have main : ∀ {rs ps' : List Addr}, Has b.K C H' [s] [some v] rs → ps = rs ++ ps' → RetB b p ds' s v H' := by
    rintro rs ps' r rfl
    refine ⟨C, rs, vs1, c.bc, c.ch, c.h0, c.fr, (c.ow p (List.mem_append_right _ k2)).1, r, fun q hq => ⟨(c.ow q (List.mem_append_left _ (List.mem_append_left _ hq))).1, (c.ow q (List.mem_append_left _ (List.mem_append_left _ hq))).2, nd.2.2 q (List.mem_append_left _ hq) p k2⟩, g3, g4⟩
  cases h1 with
  | no h1 => exact main (.no .nil) rfl
  | dat q h1 => exact main (.dat q .nil) rfl
  | own y q q2 h1 => exact main (.own y q q2 .nil) rfl
end
def Γ0M (n : Nat) (p : Addr) (ds args : List PyData) : List Sl := .ownq (some p) ds :: (args.map Sl.dat ++ List.replicate (n - (args.length + 1)) Sl.no)
theorem fn_okM {P : Program} {w : World} {K : PySem.W.Frag} {mg : Str → Option Value} {base : Heap} {x qual : Str} {st : Stmt} {f : Addr} {fd : FuncData} {N ps : List Str} {k : Nat} {gr : List PyData → List PyData → List PyData → Sl → Prop} {tr : PySem.W.Frag → TS}
    (F : Fun K x qual st f fd) (S : FnScope N ps (defScope st)) (len : ∀ ds args ds' s, gr ds args ds' s → args.length + 1 = ps.length)
    (pst : ∀ (cdv : Value) (A : Around) (outer : List Env) (s : Shared) (H : Hp) (E : XK), Room k (A.deeper (envOfC qual (defScope st) s.heap.objs.size f cdv)) → PSs (cxOf CX0 P w K mg base N qual (defScope st) f cdv A outer s H E).nox (defBody st) (tr K))
    (rd : ∀ (b : Bs) (D : Ends) (p : Addr) ds args ds' s, gr ds args ds' s → (∀ v H', RetB b p ds' s v H' → D.rt v H') → Nx b (tr b.K D) [] [] (Γ0M N.length p ds args)) :
    FnOk P w K mg base CX0 (k + 1) f fd ps (spM K gr) := by
  refine F.ok S (fun vs H Q E h => ?_) (fun cdv A outer s H vs Q E hr h => ?_)
  · obtain ⟨C, p, vs0, rest, ds, args, ds', s, rfl, _, _, _, _, da, g, _⟩ := h
    rw [List.length_cons, dpa_len da]; exact len ds args ds' s g
  · obtain ⟨C, p, vs0, rest, ds, args, ds', sl, rfl, hp, hC, ex, dv, da, g, q⟩ := h
    refine ⟨_, pst cdv A outer s H E hr, ?_⟩
    let Hd : Hp := fun a => if a = p then none else H a
    have hd : Ex Hd H := fun a o y => by
      show H a = some o
      have y2 : (if a = p then none else H a) = some o := y
      by_cases hap : a = p
      · rw [if_pos hap] at y2; cases y2
      · rw [if_neg hap] at y2; exact y2
    have hdp : Hd p = none := if_pos rfl
    refine rd ⟨K, Hd, C⟩ _ p ds args ds' sl g (fun v H' r => q v H' ?_) _ _ ⟨C, [], [p], ⟨Ex.refl C, ex, hd, fun _ _ y => y, fun a ha => ?_, by simp⟩, .nil, ?_⟩
    · obtain ⟨C', rs, vs', a1, a2, a3, a4, a5, a6, a7, a8, a9⟩ := r
      refine ⟨C', rs, vs', a1, a2, fun a o hap y => a3 a o ?_, fun a y1 y2 => ?_, a6, fun c hc => ⟨(a7 c hc).1, ?_⟩, a8, a9⟩
      · show (if a = p then none else H a) = some o
        rw [if_neg hap]; exact y
      · by_cases hap : a = p
        · rw [hap]; exact a5
        · exact a4 a (by show (if a = p then none else H a) ≠ none; rw [if_neg hap]; exact y1) y2
      · have h0 : (if c = p then none else H c) = none := (a7 c hc).2.1
        rw [if_neg (a7 c hc).2.2] at h0; exact h0
    · rcases List.mem_singleton.mp ha with rfl
      exact ⟨hC, hdp⟩
    · have := has_dats (K := K) (C := C) (H := H) (has_no (N.length - (args.length + 1))) da
      unfold L2.start Γ0M
      rw [List.length_cons, dpa_len da]
      exact .own (fun r y => (Option.some.inj y).symm ▸ rfl) hp dv this
end G
namespace G
open PySem PySem.Spec PyProof.Rows L2
open Evl (Ex ex_rd ex_l ex_t rMax2)
/-! ### a set made of a list of ints -/
section
variable {P : Program} {w : World} {A : Around} {E : Value → Shared → Prop} {s : Shared}
abbrev nakedSet (w : World) : Obj := { cls := .type "set", dict := none, data := .set #[] 0 (.fresh 0 0 (!w.params.followText "set-order")) }
theorem g_set_list {l : Addr} {items : Array Value} (ns : List Int) {Q : Value → Shared → Prop} (calm : A.handled = none) (isl : s.heap.IsList l items) (allI : IntsAre items.toList ns) (room : ns.length + 1 < scanBound)
    (go : ∀ (g : Heap) (k c : Nat), SetR w g s.heap.objs.size (fun j => decide (j ∈ ns)) c → c ≤ ns.length → (∀ b o, s.heap.get? b = some o → g.get? b = some o) → Q (.ref s.heap.objs.size) { s with heap := g, toks := k }) :
    wpAny (model P w) A (call (.type "set") [.ref l]) Q E s := by
  have size : items.size = ns.length := by
    have z := IntsAre.length allI
    rwa [Array.length_toList] at z
  obtain ⟨c, tl, mro⟩ := F.called_set.mro
  have made := F.called_set.made
  have sub := F.called_set.sub
  refine wpAny_call (codeAny_of_tree ?_)
  show wpAny _ _ (callAny (.type "set") _) _ _ _
  refine wpAny_pure ⟨Code.quiet_builtin _ (by decide +kernel), codeAny_builtin F.entry_type_call ?_⟩
  rw [Around.under_plain (weight_type_call_type "set" [.ref l] []) rfl]
  have n1 := F.called_set.notType
  have n2 := F.called_set.canCreate
  have n3 := F.typeCall_set_1 (.ref l)
  repeat (any_goals (first | assumption | wp_step))
  refine codeAny_mono (code_set_led1 (.ref l) (E := E) (Q₁ := fun obj s₁ => obj = .ref s.heap.objs.size ∧ s₁ = { s with heap := s.heap.push (nakedSet w) }) ⟨rfl, rfl⟩) fun r s₁ hr => ?_
  cases r with
  | error e => exact hr
  | ok fl =>
    cases fl with
    | ret obj =>
      obtain ⟨rfl, rfl⟩ := hr
      have at0 : (s.heap.push (nakedSet w)).get? s.heap.objs.size = some (nakedSet w) := Heap.get?_push_size _ rfl
      have ty0 : Shared.TypeIs { s with heap := s.heap.push (nakedSet w) } (.ref s.heap.objs.size) "set" := ⟨_, at0, rfl⟩
      have i1 := F.called_set.init.lookup
      have i2 := F.called_set.init.bind (.ref s.heap.objs.size)
      repeat (any_goals (first | assumption | wp_step))
      refine codeAny_mono (codeAny_call_builtin (R := wants (fun r s₂ => r = .none ∧ ∃ g k c, s₂ = { s with heap := g, toks := k } ∧ SetR w g s.heap.objs.size (fun j => decide (j ∈ ns)) c ∧ c ≤ ns.length ∧
          (∀ b o, s.heap.get? b = some o → g.get? b = some o)) E) F.called_set.init.plain F.entry_set_init (check_set_init_1 ty0 ?_)) fun r₂ s₂ hr₂ => ?_
      · obtain ⟨ol, gl, cl, nl, dl⟩ := isl
        obtain ⟨ocls, odict, odata, oslots⟩ := ol
        simp only at cl dl
        subst cl; subst dl
        have gl1 : (s.heap.push (nakedSet w)).get? l = some { cls := .type "list", dict := odict, data := .seq items nl, slots := oslots } := Heap.get?_push_of_some _ gl
        have u1 := F.sub_list_set
        have u2 := F.sub_list_frozenset
        have u3 : (Value.type "list" == Value.type "dict") = false := by decide
        have list1 : (s.heap.push (nakedSet w)).IsList l items := ⟨_, gl1, rfl, nl, rfl⟩
        unfold Builtin.«set.__init__» noKeywords Builtin.Frozenset.updateFrom
        generalize hPI : pyIter = PI
        wp_walk
        subst hPI
        refine wpAny_pyIter_list list1 ?_
        refine wpAny_bind (wpAny_runValue ?_)
        have ltl : l < s.heap.objs.size := Heap.lt_size gl
        have calm3 : A.in1.in1.in1.handled = none := by simp [calm]
        have apart : l ≠ (s.heap.push (nakedSet w)).objs.size := by
          rw [Heap.size_push]; exact Nat.ne_of_lt (Nat.lt_succ_of_lt ltl)
        have outside : s.heap.objs.size ∉ [(s.heap.push (nakedSet w)).objs.size, l] := by
          rw [Heap.size_push]; simp only [List.mem_cons, List.mem_singleton, List.not_mem_nil, or_false, not_or]
          exact ⟨Nat.ne_of_lt (Nat.lt_succ_self _), Nat.ne_of_gt ltl⟩
        have each : ∀ (i : Nat) (v : Value), items[i]? = some v → ∃ k t, ns[i]? = some k ∧ v = .int k t := fun i v hv => by
          have lt : i < ns.length := by rw [← size]; exact (Array.getElem?_eq_some_iff.mp hv).1
          obtain ⟨t, e⟩ := PyProof.Rows.IntsAre.int_at allI i v (by rw [Array.getElem?_toList]; exact hv)
          refine ⟨ns[i], t, List.getElem?_eq_getElem lt, ?_⟩
          rw [e, List.getD_eq_getElem?_getD, List.getElem?_eq_getElem lt] <;> rfl
        refine set_update_ints ((Walks.list calm3 _ l apart items).toS) s.heap.objs.size
          outside ns size room each (items.size - 0) 0 _ (by omega) (Nat.zero_le _)
          ⟨⟨_, Heap.get?_push_size _ rfl, rfl, rfl⟩, (list1.push _)⟩ ?first ?fin
        case first =>
          have g1 : ((s.heap.push (nakedSet w)).push { cls := .type "list_iterator", data := .fields #[.ref l, .int 0 0] }).get? s.heap.objs.size = some (nakedSet w) := Heap.get?_push_of_some _ at0
          exact ⟨0, Nat.le_refl 0, setR_new_at g1⟩
        case fin =>
          intro s' c' moved le' set'
          obtain ⟨g, g2, d2, k2, o2⟩ := s'
          obtain rfl : g2 = s.gens := moved.gens
          obtain rfl : d2 = s.drawn := moved.drawn
          obtain rfl : o2 = s.os := moved.os
          show wpAny _ _ _ _ _ _
          refine wpAny_pure ?_
          show wpAny _ _ (ret Value.none) _ _ _
          rw [size] at le'
          refine wpAny_pure ⟨rfl, g, k2, c', rfl, set', le', fun b o e => ?_⟩
          have b0 : b < s.heap.objs.size := Heap.lt_size e
          have b2 : b ≠ (s.heap.push (nakedSet w)).objs.size := by
            rw [Heap.size_push]; exact Nat.ne_of_lt (Nat.lt_succ_of_lt b0)
          exact moved.heap b o (by simp only [List.mem_cons, List.mem_singleton, List.not_mem_nil, or_false, not_or]; exact ⟨Nat.ne_of_lt b0, b2⟩) (Heap.get?_push_of_some _ (Heap.get?_push_of_some _ e))
      · cases r₂ with
        | error e => exact hr₂
        | ok fl₂ =>
          cases fl₂ with
          | ret r =>
            obtain ⟨rfl, g, k, c', rfl, set', le', old'⟩ := hr₂
            repeat (any_goals (first | assumption | wp_step))
            exact go _ _ _ set' le' old'
          | _ => exact hr₂.elim
    | _ => exact hr.elim
end
end G
namespace G
open PySem PySem.Spec PyProof.Rows L2
open Evl (Ex ex_rd ex_l ex_t rMax2)
/-! ### sorted(set(xs)) -/
def rSetLi (w : World) (K : PySem.W.Frag) : List V → Hp → VK → Prop := fun vs H Q => ∃ (a : Addr) (ns : List Int), vs = [V.ref a] ∧ SqL K H a (ns.map V.int) ∧ ns.length + 1 < scanBound ∧ ∀ (p : Addr) (n : Nat), n ≤ ns.length → H p = none → Q (.ref p) (upd H p (SetO w p (fun j => decide (j ∈ ns)) n))
def tSoSet (K : PySem.W.Frag) (t : TA) : TE := fun σ H Q => ∀ w : World, tCB (rSortedSet w) (tCons (tCB (rSetLi w K) t) tNil) σ H Q
section
variable {X : Cx}
theorem cr_setLi (hc : X.calm = true) : CallR X (.type "set") (rSetLi X.w X.K) := by
  intro pins s σ H vs us Q I r h
  obtain ⟨a, ns, rfl, hs, room, q⟩ := h
  obtain ⟨its, rv, hl, _⟩ := I.list hs
  rw [Vals.ref1 r]
  refine g_set_list ns (I.ok.hd hc) hl.isList rv.ints room fun g k c st le old => ?_
  have hp := I.hok.fresh (Nat.le_refl _)
  exact ⟨.ref _, upd H s.heap.objs.size (SetO X.w s.heap.objs.size (fun j => decide (j ∈ ns)) c), I.laid (t' := k) old (Nat.le_refl _) (setO_new st), rfl, q _ c le hp⟩
theorem pe_soSet {p p2 pos pos2 : Pos} {e : Expr} {t : TA} (hc : X.calm = true) (g1 : Gl X "sorted") (m1 : X.mg "sorted" = none) (g2 : Gl X "set") (m2 : X.mg "set" = none) (ha : PA X [e] t)
    (h1 : starEach [e] X.env = (false, eval e X.env) :: starEach [] X.env := by rfl) (h2 : starEach [Expr.Call (.Name "set" p2) [e] [] pos2] X.env = (false, eval (Expr.Call (.Name "set" p2) [e] [] pos2) X.env) :: starEach [] X.env := by rfl)
    (h3 : (backTo pos2 (starEach [] X.env)).any (·.1) = false := by rfl) (h4 : (backTo pos (starEach [] X.env)).any (·.1) = false := by rfl) :
    PE X (.Call (.Name "sorted" p) [.Call (.Name "set" p2) [e] [] pos2] [] pos) (tSoSet X.K t) := by
  have A := pe_callTy (p := p2) (cr_setLi hc) g2 m2 (by decide +kernel) ha (he := h1) (hpl := h3)
  have B := pe_callB (p := p) (cr_sortedSet hc) g1 m1 (by decide +kernel) (pa_cons A pa_nil h2) (he := h2) (hpl := h4)
  exact ⟨fun pins s σ H Q I h => B.run pins s σ H Q I (h X.w)⟩
end
theorem Dp.ints_back {K : PySem.W.Frag} {C : Hp} : ∀ {vs : List V} {ns : List Int}, DpAll K C vs (ns.map .int) → vs = ns.map V.int
  | [], [], .nil => rfl
  | v :: vs, n :: ns, .cons r t => by
    cases r
    rw [Dp.ints_back t]; rfl
/-- the ascending list of different numbers is one -/
theorem asc_uniq : ∀ {xs ys : List Int}, xs.Pairwise (· < ·) → ys.Pairwise (· < ·) → (∀ k, k ∈ xs ↔ k ∈ ys) → xs = ys
  | [], [], _, _, _ => rfl
  | [], y :: ys, _, _, h => absurd ((h y).mpr List.mem_cons_self) (by simp)
  | x :: xs, [], _, _, h => absurd ((h x).mp List.mem_cons_self) (by simp)
  | x :: xs, y :: ys, hx, hy, h => by
    have ax := List.pairwise_cons.mp hx
    have ay := List.pairwise_cons.mp hy
    have e : x = y := by
      rcases List.mem_cons.mp ((h x).mp List.mem_cons_self) with e | m
      · exact e
      · rcases List.mem_cons.mp ((h y).mpr List.mem_cons_self) with e | m'
        · exact e.symm
        · have p1 := ay.1 x m
          have p2 := ax.1 y m'
          omega
    subst e
    rw [asc_uniq ax.2 ay.2 fun k => ?_]
    constructor
    · intro m
      rcases List.mem_cons.mp ((h k).mp (List.mem_cons_of_mem _ m)) with e | m'
      · subst e; exact absurd (ax.1 k m) (by omega)
      · exact m'
    · intro m
      rcases List.mem_cons.mp ((h k).mpr (List.mem_cons_of_mem _ m)) with e | m'
      · subst e; exact absurd (ay.1 k m) (by omega)
      · exact m'
theorem s_soSet {b : Bs} {Γ Γ1 : List Sl} {t : TA} {ns ms : List Int} (h : EvA b t Γ Γ1 [li ns]) (hz : ns.length < 64) (hm : ms.Pairwise (· < ·)) (he : ∀ k, k ∈ ms ↔ k ∈ ns) : EvS b (tSoSet b.K t) Γ Γ1 (.own (ms.map .int)) := fun T τ σ H hs Q q w =>
  h T τ σ H hs _ fun vs H1 C hc dv => by
    obtain ⟨v, rfl, dx⟩ := dpa1 dv
    cases dx with
    | lst hq ha =>
      have e := Dp.ints_back ha
      subst e
      refine ⟨_, ns, rfl, ex_l hc.ch hq, by simp only [scanBound]; omega, fun p n le hp => ?_⟩
      show rSortedSet w [V.ref p] _ Q
      refine ⟨p, _, n, rfl, upd_same, by omega, fun ks q2 h1 h2 _ h3 => ?_⟩
      have e2 : ks = ms := asc_uniq h1 hm fun k => by rw [h2 k, he k]; simp
      subst e2
      have hq1 : H1 q2 = none := by
        by_cases z : q2 = p
        · rw [z]; exact hp
        · rwa [upd_ne z] at h3
      have dpa : ∀ C', DpAll b.K C' (ks.map V.int) (ks.map PyData.int) := fun C' => dpa_ints
      have x12 := (Ex.new (o := SetO w p (fun j => decide (j ∈ ns)) n) hp).trans (Ex.new (o := .lst (ks.map V.int)) h3)
      have r : Ret b.K H1 C (.own (ks.map .int)) (.ref q2) _ := ⟨C, [q2], Ex.refl C, hc.ch.trans x12, x12, fun _ _ z => z, .own (fun _ q => nomatch q) upd_same (dpa C) .nil, fun q' hq' => by
        rcases List.mem_singleton.mp hq' with rfl
        exact ⟨ex_none hc.ch hq1, hq1⟩⟩
      exact q _ _ (hc.step r)
/-! ### list + list -/
def rCatS (K : PySem.W.Frag) : R2 := fun x y H Q => ∃ l b xs zs, x = .ref l ∧ y = .ref b ∧ SqL K H l xs ∧ SqL K H b zs ∧ xs.length + zs.length ≤ 100000 ∧ ∀ p, H p = none → Q (.ref p) (upd H p (.lst (xs ++ zs)))
theorem op_catS {X : Cx} : OpR X (binaryOp .Add) (rCatS X.K) := by
  intro pins s σ H x y v u Q I rx ry h
  obtain ⟨l, b, xs, zs, rfl, rfl, h1, h2, hz, q⟩ := h
  obtain ⟨its, r1, p1, _⟩ := I.list h1
  obtain ⟨its2, r2, p2, _⟩ := I.list h2
  have l1 := r1.length
  have l2 := r2.length
  have z0 : (100000 : Nat) ≤ sizeLine := by rw [sizeLine_eq]; decide
  cases rx
  cases ry
  obtain ⟨⟨cls, dd, data, sl⟩, ho, hc, n, hd⟩ := p1.isList
  obtain ⟨⟨cls2, dd2, data2, sl2⟩, ho2, hc2, n2, hd2⟩ := p2.isList
  simp only at hc hd hc2 hd2
  subst hc hd hc2 hd2
  have e : its.toArray ++ its2.toArray = (its ++ its2).toArray := by simp
  refine concat_meets ⟨_, ho, rfl⟩ ⟨_, ho2, rfl⟩ noFill_list_add seq_list_add PySem.F.slot_list_add PySem.F.entry_list_add (PySem.F.args_list_add_2 _ _) (list_addW l b its.toArray its2.toArray n n2 dd dd2 sl sl2 (by rw [List.size_toArray, List.size_toArray]; omega)) ⟨ho, ho2, ?_⟩
  rw [e]
  exact ⟨.ref _, _, I.lnew (t' := s.toks) (r1.append r2) (by rw [List.length_append]; omega), rfl, q _ I.fresh⟩
theorem rd_catS {K : PySem.W.Frag} {ds es : List PyData} (hz : ds.length + es.length ≤ 100000) : RD K (rCatS K) (.list ds) (.list es) (.own (ds ++ es)) := fun C H x y ex dx dy Q q => by
  cases dx with
  | lst hq ha =>
    cases dy with
    | lst hq2 ha2 =>
      have l1 := dpa_len ha
      have l2 := dpa_len ha2
      exact ⟨_, _, _, _, rfl, rfl, ex_l ex hq, ex_l ex hq2, by omega, fun p hp => q _ _ (.lst ex (dpa_app ha ha2) hp)⟩
theorem s_repO {b : Bs} {Γ Γ1 Γ2 : List Sl} {ta tb : TE} {z : Option Addr} {ds : List PyData} {k : Int} (ha : EvS b ta Γ Γ1 (.ownq z ds)) (hb : EvS b tb Γ1 Γ2 (.dat (.int k))) (h0 : 0 ≤ k) (h1 : k ≤ 1000) (hl : ds.length ≤ 10) : EvS b (tOp rRep ta tb) Γ Γ2 (.own (List.replicate k.toNat ds).flatten) := fun T τ σ H hs Q q =>
  ha T τ σ H hs _ fun x H1 h1' => hb _ _ σ H1 h1' _ fun y H2 h2' => by
    obtain ⟨C, dy, h3⟩ := h2'.pop
    cases dy
    obtain ⟨p, us, f1, f2, f3, f4⟩ := h3.own_top
    cases f1
    have l1 := dpa_len f3
    have z0 : (100000 : Nat) ≤ sizeLine := by rw [sizeLine_eq]; decide
    have hk : k.toNat ≤ 1000 := by omega
    have hm : us.length * k.toNat ≤ 10 * 1000 := Nat.mul_le_mul (by omega) hk
    refine ⟨_, _, _, rfl, rfl, f2, by omega, by omega, by omega, fun p' hp => ?_⟩
    refine q _ _ ((HsC.drop h3).step (.lst h3.ch ?_ hp))
    generalize k.toNat = n
    induction n with
    | zero => exact .nil
    | succ n ih =>
      rw [List.replicate_succ, List.replicate_succ, List.flatten_cons, List.flatten_cons]
      exact dpa_app f3 ih
end G
namespace G
open PySem PySem.Spec PyProof.Rows L2
open Evl (Ex ex_rd ex_l ex_t rMax2)
/-! ### a comprehension over an own list -/
theorem s_lcO {b : Bs} {Γ : List Sl} {kk : Nat} {z0 : Option Addr} {g : TG} {tt : TT} {te : TE} {vs : List Nat} {its : List PyData} (hk0 : Γ[kk]? = some (.ownq z0 its)) (hkv : kk ∉ vs) (G G' G'' : Nat → List Sl) (c : Nat → Bool) (e : Nat → PyData) (h0 : G 0 = wipeG Γ vs) (hG : ∀ i, i ≤ its.length → (G i)[kk]? = some (.ownq z0 its))
    (hg : ∀ i di, its[i]? = some di → EvGv b g di vs (G i) (G' i)) (ht : ∀ i di, its[i]? = some di → EvT b tt (G' i) (G' i) (c i)) (he : ∀ i di, its[i]? = some di → c i = true → EvS b te (G' i) (G'' i) (.dat (e i)))
    (hs : ∀ i, i < its.length → wipeG (if c i then G'' i else G' i) vs = wipeG (G (i + 1)) vs ∧ wipeG (G (i + 1)) vs = G (i + 1)) (hz : its.length ≤ 100000) :
    EvS b (tLc (iList b.K (tVar kk)) g tt te vs) Γ (G its.length) (.own (((List.range its.length).filter c).map e)) := fun T τ σ H hs0 Q q => by
  obtain ⟨C, h1⟩ := hs0
  obtain ⟨p, xs0, ep, hp0, hl0, _⟩ := h1.own_at hk0
  refine ⟨.ref p, ep, p, rfl, ⟨xs0, .inl (.inl hp0)⟩, ?_⟩
  intro D hD
  let acc : Nat → List PyData := fun i => ((List.range i).filter c).map e
  have hw : wipeG (G 0) vs = G 0 := by
    rw [h0]
    have aux : ∀ (Γ : List Sl) (us : List Nat) (k : Nat), k ∈ us → (wipeG Γ us).set k .no = wipeG Γ us := fun Γ us k hk => by
      refine List.ext_getElem? fun j => ?_
      rw [List.getElem?_set]
      by_cases ej : k = j
      · subst ej
        rw [if_pos rfl]
        rcases wipeG_get Γ us k hk with z | z
        · have := (List.getElem?_eq_some_iff.mp z).1
          rw [if_pos this, z]
        · have := List.getElem?_eq_none_iff.mp z
          rw [if_neg (by omega), z]
      · rw [if_neg ej]
    have aux2 : ∀ (ws us : List Nat) (Γ : List Sl), (∀ k ∈ ws, k ∈ us) → wipeG (wipeG Γ us) ws = wipeG Γ us := by
      intro ws
      induction ws with
      | nil => intro us Γ _; rfl
      | cons w ws ih =>
        intro us Γ hk
        show (wipeG (wipeG Γ us) ws).set w .no = _
        rw [ih us Γ fun k z => hk k (List.mem_cons_of_mem _ z)]
        exact aux Γ us w (hk w List.mem_cons_self)
    exact aux2 vs vs Γ fun _ z => z
  have hwi : ∀ i, i ≤ its.length → wipeG (G i) vs = G i := fun i hi => by
    cases i with
    | zero => exact hw
    | succ i => exact (hs i (by omega)).2
  have start : Hs b (.own [] :: T) (some (.ref D) :: τ) (G 0) (wipe σ vs) (upd H D (.lst [])) := by
    rw [h0]
    exact hs_wipe (h1.step (Ret.lst h1.ch .nil hD)) vs
  have hwk : (wipe σ vs)[kk]? = some (some (.ref p)) := by rw [wipe_get, if_neg hkv]; exact ep
  refine ⟨fun i m H' => i ≤ its.length ∧ m = its.length - i ∧ Hs b (.own (acc i) :: T) (some (.ref D) :: τ) (G i) (wipe σ vs) H', ⟨_, Nat.zero_le _, rfl, start⟩, ?_⟩
  rintro i m H' ⟨hi, rfl, C', h3⟩
  obtain ⟨p', xs, e', hp', ha', _⟩ := h3.own_at (hG i hi)
  rw [hwk] at e'
  cases e'
  have hlx := dpa_len ha'
  by_cases hlt : i < its.length
  · have hdi : its[i]? = some its[i] := by simp [hlt]
    obtain ⟨yy, y1, y2⟩ := dpa_get ha' hdi
    have g2 : ∀ x H2, (Itl b.K p).yld i H' x H2 → Ret b.K H' C' (.dat its[i]) x H2 := fun x H2 z => by
      obtain ⟨rfl, z⟩ := z
      have := (z _ (.inl (.inl hp'))).symm.trans y1
      cases this
      exact .same h3.ch y2
    refine .inr ⟨⟨_, yy, .inl (.inl hp'), y1⟩, fun H2 => Hs b (.own (acc (i + 1)) :: T) (some (.ref D) :: τ) (G (i + 1)) (wipe σ vs) H2, fun H2 n => ⟨its.length - (i + 1), by omega, hlt, rfl, n⟩, fun x H2 y => ?_⟩
    refine hg i its[i] hdi _ _ _ _ _ (h3.step (g2 x H2 y)) _ fun σ2 h5 hw2 => ⟨by rw [hw2, wipe_wipe], ?_⟩
    refine ht i its[i] hdi _ _ σ2 H2 h5 _ fun H3 h6 => ?_
    have hsi := hs i hlt
    cases hc : c i with
    | true =>
      rw [hc] at hsi
      refine iteT (he i its[i] hdi hc _ _ σ2 H3 h6 _ fun y H4 h7 => ?_)
      obtain ⟨C4, dy, h8⟩ := h7.pop
      obtain ⟨p, us, f1, f2, f3, f4⟩ := h8.own_top
      cases f1
      refine ⟨us, f2, ?_, ?_⟩
      · rw [dpa_len f3]
        refine Nat.lt_of_le_of_lt (?_ : _ ≤ 100000) (by decide)
        show (((List.range i).filter c).map e).length ≤ 100000
        rw [List.length_map]
        have := List.length_filter_le c (List.range i)
        rw [List.length_range] at this
        omega
      · have ea : acc (i + 1) = acc i ++ [e i] := by
          show ((List.range (i + 1)).filter c).map e = ((List.range i).filter c).map e ++ [e i]
          rw [List.range_succ, List.filter_append, List.map_append, List.filter_cons, if_pos hc]; rfl
        rw [ea]
        have h10 := hs_wipe ⟨C4, f4 _ _ (dpa_app f3 (.cons dy .nil))⟩ vs
        rw [hw2, wipe_wipe] at h10
        have e2 : wipeG (G'' i) vs = G (i + 1) := by simpa using hsi.1.trans hsi.2
        rw [e2] at h10
        exact h10
    | false =>
      rw [hc] at hsi
      refine iteF ?_
      have ea : acc (i + 1) = acc i := by
        show ((List.range (i + 1)).filter c).map e = ((List.range i).filter c).map e
        rw [List.range_succ, List.filter_append, List.map_append, List.filter_cons, if_neg (by rw [hc]; decide)]; simp
      have h10 := hs_wipe h6 vs
      rw [hw2, wipe_wipe] at h10
      have e2 : wipeG (G' i) vs = G (i + 1) := by simpa using hsi.1.trans hsi.2
      rw [e2] at h10
      show Hs b (.own (acc (i + 1)) :: T) _ (G (i + 1)) (wipe σ vs) H3
      rw [ea]
      exact h10
  · have e1 : i = its.length := by omega
    subst e1
    refine .inl ⟨⟨_, .inl (.inl hp'), by omega⟩, q _ _ ?_⟩
    have := hs_unwipe (Γ := G its.length) (σ := σ) (vs := vs) (T := .own (acc its.length) :: T) (τ := some (.ref D) :: τ) (b := b) (H := H') ⟨C', by rw [hwi _ (Nat.le_refl _)]; exact h3⟩
    rw [hwi _ (Nat.le_refl _)] at this
    exact this
theorem s_filtO {b : Bs} {Γ : List Sl} {α : Type} {kk : Nat} {z0 : Option Addr} {g : TG} {tt : TT} {te : TE} {vs : List Nat} {ks : List α} {φ : α → PyData} (hk0 : Γ[kk]? = some (.ownq z0 (ks.map φ))) (hkv : kk ∉ vs) (hkw : (wipeG Γ vs)[kk]? = some (.ownq z0 (ks.map φ))) (G' : α → List Sl) (c : α → Bool) (f : α → PyData)
    (hg : ∀ k ∈ ks, EvGv b g (φ k) vs (wipeG Γ vs) (G' k)) (ht : ∀ k ∈ ks, EvT b tt (G' k) (G' k) (c k)) (he : ∀ k ∈ ks, c k = true → EvS b te (G' k) (G' k) (.dat (f k))) (hs : ∀ k ∈ ks, wipeG (G' k) vs = wipeG (wipeG Γ vs) vs) (hw : wipeG (wipeG Γ vs) vs = wipeG Γ vs) (hz : ks.length ≤ 100000) :
    EvS b (tLc (iList b.K (tVar kk)) g tt te vs) Γ (wipeG Γ vs) (.own ((ks.filter c).map f)) := by
  cases ks with
  | nil =>
    have := s_lcO (b := b) (tt := tt) (te := te) (g := g) (vs := vs) hk0 hkv (fun _ => wipeG Γ vs) (fun _ => []) (fun _ => []) (fun _ => true) (fun _ => .none) rfl (fun _ _ => hkw) (fun i di e => by simp at e) (fun i di e => by simp at e) (fun i di e => by simp at e) (fun i hi => by simp at hi) (by simp)
    simpa using this
  | cons k0 kr =>
    have hget : ∀ i di, ((k0 :: kr).map φ)[i]? = some di → ∃ k, (k0 :: kr)[i]? = some k ∧ φ k = di := fun i di e => by
      rw [List.getElem?_map] at e
      obtain ⟨k, hk, r⟩ := Option.map_eq_some_iff.mp e
      exact ⟨k, hk, r⟩
    have hD : ∀ i k, (k0 :: kr)[i]? = some k → (k0 :: kr).getD i k0 = k := fun i k e => by rw [List.getD_eq_getElem?_getD, e]; rfl
    have := s_lcO (b := b) (tt := tt) (te := te) (g := g) (vs := vs) hk0 hkv (fun _ => wipeG Γ vs) (fun i => G' ((k0 :: kr).getD i k0)) (fun i => G' ((k0 :: kr).getD i k0)) (fun i => c ((k0 :: kr).getD i k0)) (fun i => f ((k0 :: kr).getD i k0)) rfl (fun _ _ => hkw)
      (fun i di e => by obtain ⟨k, hk, rfl⟩ := hget i di e; rw [hD i k hk]; exact hg k (List.mem_of_getElem? hk))
      (fun i di e => by obtain ⟨k, hk, rfl⟩ := hget i di e; rw [hD i k hk]; exact ht k (List.mem_of_getElem? hk))
      (fun i di e hc => by obtain ⟨k, hk, rfl⟩ := hget i di e; rw [hD i k hk] at hc ⊢; exact he k (List.mem_of_getElem? hk) hc)
      (fun i hi => by
        have hi' : i < (k0 :: kr).length := by simpa using hi
        have hk : (k0 :: kr)[i]? = some (k0 :: kr)[i] := by simp [hi']
        refine ⟨?_, hw⟩
        rw [hD i _ hk]
        simp only [ite_self]
        exact hs _ (List.getElem_mem hi')) (by simpa using hz)
    refine s_is this ?_
    congr 1
    rw [List.length_map]
    exact filt_getD (k0 :: kr) k0 c f
end G
namespace M
open PySem PySem.Spec PyProof.Rows L2
open Evl (Ex ex_rd ex_l ex_t rMax2)
open G (dpx dpax dpa_len dpa_get dpa_app dpa_set ex_none wipe_get wipe_eq wipe_wipe)
/-! ### values of the model -/
inductive MV where
  | d (p : PyData)
  | ref (n : Nat)
  | tup (xs : List MV)
inductive Ob where
  | lst (xs : List MV)
  | dct (kvs : List (Key × MV))
  | dctT (kvs : List (List Key × MV))
  /-- the table of the code objects of a def's lambdas, all of the name q -/
  | tab (a : Addr) (q : Str)
  /-- a dict of which only the values are told, in their order -/
  | dv (xs : List MV)
def dvP (a : Addr) (vs : List V) : Heap → Prop := fun h => (a == sysModules) = false ∧ vs.length ≤ sizeLine ∧ ∃ o es ep, h.get? a = some o ∧ o.ExactDict ∧ o.data = .dict es ep ∧ Vals vs (es.toList.map (·.val))
abbrev MH := List Ob
abbrev Env := List (Option MV)
structure Wd where
  ι : List Addr
  C : Hp
  H : Hp
mutual
inductive Rep (K : PySem.W.Frag) (ι : List Addr) (C : Hp) : V → MV → Prop
  | d {v : V} {p : PyData} : Dp K C v p → Rep K ι C v (.d p)
  | ref {n : Nat} {a : Addr} : ι[n]? = some a → Rep K ι C (.ref a) (.ref n)
  | tup {a : Addr} {vs : List V} {xs : List MV} : C a = some (.tup vs) → RepA K ι C vs xs → Rep K ι C (.ref a) (.tup xs)
inductive RepA (K : PySem.W.Frag) (ι : List Addr) (C : Hp) : List V → List MV → Prop
  | nil : RepA K ι C [] []
  | cons {v : V} {x : MV} {vs : List V} {xs : List MV} : Rep K ι C v x → RepA K ι C vs xs → RepA K ι C (v :: vs) (x :: xs)
end
inductive ObRep (K : PySem.W.Frag) (ι : List Addr) (C : Hp) : Addr → HO → Ob → Prop
  | lst {a : Addr} {vs : List V} {xs : List MV} : RepA K ι C vs xs → ObRep K ι C a (.lst vs) (.lst xs)
  | dct {a : Addr} {kvs : List (Key × V)} {kws : List (Key × MV)} : kvs.map (·.1) = kws.map (·.1) → RepA K ι C (kvs.map (·.2)) (kws.map (·.2)) → ObRep K ι C a (.dK kvs) (.dct kws)
  | dctT {a : Addr} {kvs : List (List Key × V)} {kws : List (List Key × MV)} : kvs.map (·.1) = kws.map (·.1) → RepA K ι C (kvs.map (·.2)) (kws.map (·.2)) → ObRep K ι C a (.dT kvs) (.dctT kws)
  | tab {a : Addr} {ps : Array Value} {q : Str} : TriplesOk ps.toList → (∀ (pos : Pos) (cv : Value), codeAmong pos ps.toList = some cv → ∃ c, cv = .ref c ∧ C c = some (LamX.CodeO c q)) → ObRep K ι C a (.tbl ps) (.tab a q)
  | dv {a : Addr} {vs : List V} {xs : List MV} : RepA K ι C vs xs → ObRep K ι C a (.ext (dvP a vs)) (.dv xs)
section
variable {K : PySem.W.Frag} {ι ι' : List Addr} {C C' : Hp}
theorem pre_get {n : Nat} {a : Addr} (p : ι <+: ι') (h : ι[n]? = some a) : ι'[n]? = some a := by
  obtain ⟨t, rfl⟩ := p
  rw [List.getElem?_append_left]
  · exact h
  · exact (List.getElem?_eq_some_iff.mp h).1
mutual
theorem Rep.mono (p : ι <+: ι') (e : Ex C C') : ∀ {v : V} {x : MV}, Rep K ι C v x → Rep K ι' C' v x
  | _, _, .d h => .d (dpx e h)
  | _, _, .ref h => .ref (pre_get p h)
  | _, _, .tup h a => .tup (e _ _ h) (RepA.mono p e a)
theorem RepA.mono (p : ι <+: ι') (e : Ex C C') : ∀ {vs : List V} {xs : List MV}, RepA K ι C vs xs → RepA K ι' C' vs xs
  | _, _, .nil => .nil
  | _, _, .cons h t => .cons (Rep.mono p e h) (RepA.mono p e t)
end
theorem ObRep.mono (p : ι <+: ι') (e : Ex C C') {a : Addr} {o : HO} {b : Ob} (h : ObRep K ι C a o b) : ObRep K ι' C' a o b := by
  cases h with
  | lst h => exact .lst (h.mono p e)
  | dct h1 h => exact .dct h1 (h.mono p e)
  | dctT h1 h => exact .dctT h1 (h.mono p e)
  | dv h => exact .dv (h.mono p e)
  | tab h1 h =>
    refine .tab h1 fun pos cv z => ?_
    obtain ⟨c, e1, e2⟩ := h pos cv z
    exact ⟨c, e1, e _ _ e2⟩
theorem RepA.len : ∀ {vs : List V} {xs : List MV}, RepA K ι C vs xs → vs.length = xs.length
  | _, _, .nil => rfl
  | _, _, .cons _ t => congrArg (· + 1) (RepA.len t)
theorem RepA.get : ∀ {vs : List V} {xs : List MV} {i : Nat} {x : MV}, RepA K ι C vs xs → xs[i]? = some x → ∃ v, vs[i]? = some v ∧ Rep K ι C v x
  | _, _, _, _, .nil, e => by simp at e
  | _, _, 0, _, .cons r _, e => by simp at e; subst e; exact ⟨_, rfl, r⟩
  | _, _, i + 1, x, .cons _ t, e => by
    obtain ⟨u, h1, h2⟩ := RepA.get (i := i) (x := x) t (by simpa using e)
    exact ⟨u, by simpa using h1, h2⟩
theorem RepA.app : ∀ {vs ws : List V} {xs ys : List MV}, RepA K ι C vs xs → RepA K ι C ws ys → RepA K ι C (vs ++ ws) (xs ++ ys)
  | _, _, _, _, .nil, s => s
  | _, _, _, _, .cons r t, s => .cons r (RepA.app t s)
theorem RepA.setv {v : V} {x : MV} (r : Rep K ι C v x) : ∀ {vs : List V} {xs : List MV} (i : Nat), RepA K ι C vs xs → RepA K ι C (vs.set i v) (xs.set i x)
  | _, _, _, .nil => .nil
  | _, _, 0, .cons _ t => .cons r t
  | _, _, i + 1, .cons q t => .cons q (RepA.setv r i t)
theorem RepA.ofD : ∀ {vs : List V} {ds : List PyData}, DpAll K C vs ds → RepA K ι C vs (ds.map .d)
  | _, _, .nil => .nil
  | _, _, .cons r t => .cons (.d r) (RepA.ofD t)
/-- all data -/
def allD : List MV → Option (List PyData)
  | [] => some []
  | .d p :: xs => (allD xs).map (p :: ·)
  | _ :: _ => none
theorem allD_map : ∀ ds : List PyData, allD (ds.map .d) = some ds
  | [] => rfl
  | d :: ds => by show (allD (ds.map .d)).map (d :: ·) = _; rw [allD_map ds]; rfl
theorem allD_eq : ∀ {xs : List MV} {ds : List PyData}, allD xs = some ds → xs = ds.map .d
  | [], ds, h => by cases h; rfl
  | .d p :: xs, ds, h => by
    unfold allD at h
    cases e : allD xs with
    | none => rw [e] at h; cases h
    | some es => rw [e] at h; cases h; rw [allD_eq e]; rfl
  | .ref _ :: _, _, h => by cases h
  | .tup _ :: _, _, h => by cases h
theorem Rep.dat {v : V} {p : PyData} (h : Rep K ι C v (.d p)) : Dp K C v p := by cases h; assumption
theorem RepA.toD : ∀ {vs : List V} {ds : List PyData}, RepA K ι C vs (ds.map .d) → DpAll K C vs ds
  | _, [], .nil => .nil
  | _, d :: ds, .cons r t => .cons r.dat (RepA.toD t)
def mkTup (xs : List MV) : MV := match allD xs with
  | some ds => .d (.tuple ds)
  | none => .tup xs
theorem mkTup_d (ds : List PyData) : mkTup (ds.map .d) = .d (.tuple ds) := by unfold mkTup; rw [allD_map]
theorem sqt {a : Addr} {vs : List V} (h : C a = some (.tup vs)) : SqT K C a vs := .inl (.inl h)
theorem mkTup_rep {a : Addr} {vs : List V} {xs : List MV} (h : C a = some (.tup vs)) (r : RepA K ι C vs xs) : Rep K ι C (.ref a) (mkTup xs) := by
  unfold mkTup
  cases e : allD xs with
  | none => exact .tup h r
  | some ds =>
    rw [allD_eq e] at r
    exact .d (.tup (sqt h) r.toD)
end
/-! ### worlds -/
structure Rel (K : PySem.W.Frag) (w : Wd) (h : MH) : Prop where
  ch : Ex w.C w.H
  len : w.ι.length = h.length
  nd : w.ι.Nodup
  ow : ∀ a ∈ w.ι, w.C a = none
  ob : ∀ (n : Nat) (a : Addr) (b : Ob), w.ι[n]? = some a → h[n]? = some b → ∃ o, w.H a = some o ∧ ObRep K w.ι w.C a o b
structure Step (w w' : Wd) : Prop where
  pre : w.ι <+: w'.ι
  ex : Ex w.C w'.C
  fr : ∀ a o, w.H a = some o → a ∉ w.ι → w'.H a = some o
  nw : ∀ a ∈ w'.ι, a ∈ w.ι ∨ w.H a = none
  nc : ∀ a, w.H a ≠ none → w.C a = none → w'.C a = none
  kp : ∀ a, w.H a ≠ none → w'.H a ≠ none
theorem Step.refl (w : Wd) : Step w w := ⟨List.prefix_refl _, fun _ _ h => h, fun _ _ h _ => h, fun _ h => .inl h, fun _ _ h => h, fun _ h => h⟩
theorem Step.trans {w1 w2 w3 : Wd} (s : Step w1 w2) (t : Step w2 w3) : Step w1 w3 where
  pre := s.pre.trans t.pre
  ex := s.ex.trans t.ex
  fr := fun a o h n => t.fr a o (s.fr a o h n) fun m => by
    rcases s.nw a m with z | z
    · exact n z
    · rw [h] at z; cases z
  nw := fun a m => by
    rcases t.nw a m with z | z
    · exact s.nw a z
    · right
      cases e : w1.H a with
      | none => rfl
      | some o => exact absurd z (s.kp a (by rw [e]; exact fun q => nomatch q))
  nc := fun a h n => t.nc a (s.kp a h) (s.nc a h n)
  kp := fun a h => t.kp a (s.kp a h)
section
variable {K : PySem.W.Frag} {w w' w1 w2 : Wd} {h h1 h2 h' : MH} {v : V} {x : MV}
theorem Rep.up (s : Step w w') (r : Rep K w.ι w.C v x) : Rep K w'.ι w'.C v x := r.mono s.pre s.ex
theorem RepA.up {vs : List V} {xs : List MV} (s : Step w w') (r : RepA K w.ι w.C vs xs) : RepA K w'.ι w'.C vs xs := r.mono s.pre s.ex
/-- a new thing that is known -/
def Wd.know (w : Wd) (p : Addr) (o : HO) : Wd := ⟨w.ι, upd w.C p o, upd w.H p o⟩
theorem Rel.notin (r : Rel K w h) {p : Addr} (hp : w.H p = none) : p ∉ w.ι := fun m => by
  obtain ⟨n, hn, e⟩ := List.getElem_of_mem m
  obtain ⟨o, q, _⟩ := r.ob n p (h[n]'(by rw [← r.len]; exact hn)) (by rw [← e]; simp) (by simp)
  rw [hp] at q; cases q
theorem Rel.cnone (r : Rel K w h) {p : Addr} (hp : w.H p = none) : w.C p = none := ex_none r.ch hp
theorem know_ok (r : Rel K w h) {p : Addr} {o : HO} (hp : w.H p = none) : Step w (w.know p o) ∧ Rel K (w.know p o) h := by
  have hc := r.cnone hp
  have hn := r.notin hp
  have e1 : Ex w.C (upd w.C p o) := Ex.new hc
  refine ⟨⟨List.prefix_refl _, e1, fun a u q _ => ?_, fun a m => .inl m, fun a q c => ?_, fun a q => ?_⟩, ⟨fun a u q => ?_, r.len, r.nd, fun a m => ?_, fun n a b e q => ?_⟩⟩
  · show upd w.H p o a = _
    rw [upd_ne (fun z => by rw [z, hp] at q; cases q)]; exact q
  · show upd w.C p o a = _
    rw [upd_ne (fun z => q (by rw [z]; exact hp))]; exact c
  · show upd w.H p o a ≠ none
    rw [upd_ne (fun z => q (by rw [z]; exact hp))]; exact q
  · show upd w.H p o a = _
    replace q : upd w.C p o a = some u := q
    by_cases z : a = p
    · subst z; rw [upd_same] at q ⊢; exact q
    · rw [upd_ne z] at q ⊢; exact r.ch a u q
  · show upd w.C p o a = none
    rw [upd_ne (fun z => hn (by rw [← z]; exact m))]; exact r.ow a m
  · obtain ⟨u, q1, q2⟩ := r.ob n a b e q
    refine ⟨u, ?_, q2.mono (List.prefix_refl _) e1⟩
    show upd w.H p o a = _
    rw [upd_ne (fun z => by rw [z, hp] at q1; cases q1)]; exact q1
/-- a new thing of one's own -/
def Wd.alloc (w : Wd) (p : Addr) (o : HO) : Wd := ⟨w.ι ++ [p], w.C, upd w.H p o⟩
theorem alloc_ok (r : Rel K w h) {p : Addr} {o : HO} {b : Ob} (hp : w.H p = none) (hb : ObRep K (w.ι ++ [p]) w.C p o b) : Step w (w.alloc p o) ∧ Rel K (w.alloc p o) (h ++ [b]) ∧ (w.alloc p o).ι[h.length]? = some p := by
  have hc := r.cnone hp
  have hn := r.notin hp
  have pf : w.ι <+: w.ι ++ [p] := List.prefix_append _ _
  refine ⟨⟨pf, fun _ _ q => q, fun a u q _ => ?_, fun a m => ?_, fun a _ c => c, fun a q => ?_⟩, ⟨fun a u q => ?_, ?_, ?_, fun a m => ?_, fun n a b' e q => ?_⟩, ?_⟩
  · show upd w.H p o a = _
    rw [upd_ne (fun z => by rw [z, hp] at q; cases q)]; exact q
  · rcases List.mem_append.mp m with z | z
    · exact .inl z
    · rw [List.mem_singleton.mp z]; exact .inr hp
  · show upd w.H p o a ≠ none
    rw [upd_ne (fun z => q (by rw [z]; exact hp))]; exact q
  · show upd w.H p o a = _
    replace q : w.C a = some u := q
    rw [upd_ne (fun z => by rw [z, hc] at q; cases q)]; exact r.ch a u q
  · show (w.ι ++ [p]).length = _
    rw [List.length_append, List.length_append, r.len]; rfl
  · show (w.ι ++ [p]).Nodup
    refine List.nodup_append.mpr ⟨r.nd, by simp, fun a m b m' => ?_⟩
    rw [List.mem_singleton.mp m']
    exact fun z => hn (by rw [← z]; exact m)
  · rcases List.mem_append.mp m with z | z
    · exact r.ow a z
    · rw [List.mem_singleton.mp z]; exact hc
  · replace e : (w.ι ++ [p])[n]? = some a := e
    show ∃ u, upd w.H p o a = some u ∧ _
    by_cases z : n < h.length
    · rw [List.getElem?_append_left z] at q
      rw [List.getElem?_append_left (by rw [r.len]; exact z)] at e
      obtain ⟨u, q1, q2⟩ := r.ob n a b' e q
      refine ⟨u, ?_, q2.mono pf fun _ _ q => q⟩
      rw [upd_ne (fun z => by rw [z, hp] at q1; cases q1)]; exact q1
    · rw [List.getElem?_append_right (by omega)] at q
      rw [List.getElem?_append_right (by rw [r.len]; omega), r.len] at e
      have hz : n - h.length = 0 := by
        cases hn : n - h.length with
        | zero => rfl
        | succ k => rw [hn] at q; simp at q
      rw [hz] at q e
      simp at q e
      subst q e
      exact ⟨o, upd_same, hb⟩
  · show (w.ι ++ [p])[h.length]? = some p
    rw [← r.len, List.getElem?_append_right (Nat.le_refl _), Nat.sub_self]; rfl
/-- a thing of one's own is changed -/
def Wd.write (w : Wd) (a : Addr) (o : HO) : Wd := ⟨w.ι, w.C, upd w.H a o⟩
theorem write_ok (r : Rel K w h) {n : Nat} {a : Addr} {o : HO} {b : Ob} (hn : w.ι[n]? = some a) (hb : ObRep K w.ι w.C a o b) : Step w (w.write a o) ∧ Rel K (w.write a o) (h.set n b) := by
  have hm : a ∈ w.ι := List.mem_of_getElem? hn
  refine ⟨⟨List.prefix_refl _, fun _ _ q => q, fun a' u q nm => ?_, fun a m => .inl m, fun a _ c => c, fun a' q => ?_⟩, ⟨fun a' u q => ?_, ?_, r.nd, r.ow, fun n' a' b' e q => ?_⟩⟩
  · show upd w.H a o a' = _
    rw [upd_ne (fun z => nm (by rw [z]; exact hm))]; exact q
  · show upd w.H a o a' ≠ none
    by_cases z : a' = a
    · rw [z, upd_same]; exact fun q => nomatch q
    · rw [upd_ne z]; exact q
  · show upd w.H a o a' = _
    replace q : w.C a' = some u := q
    rw [upd_ne (fun z => by rw [z, r.ow a hm] at q; cases q)]; exact r.ch a' u q
  · show w.ι.length = _
    rw [List.length_set, r.len]
  · show ∃ u, upd w.H a o a' = some u ∧ _
    by_cases z : n = n'
    · subst z
      replace e : w.ι[n]? = some a' := e
      rw [hn] at e
      cases e
      have hl := (List.getElem?_eq_some_iff.mp hn).1
      rw [List.getElem?_set_self (by rw [← r.len]; exact hl)] at q
      cases q
      exact ⟨o, upd_same, hb⟩
    · rw [List.getElem?_set_ne z] at q
      obtain ⟨u, q1, q2⟩ := r.ob n' a' b' e q
      refine ⟨u, ?_, q2⟩
      have ne : a' ≠ a := fun y => by
        subst y
        exact z ((List.getElem?_inj (List.getElem?_eq_some_iff.mp hn).1 r.nd).mp (hn.trans e.symm))
      rw [upd_ne ne]; exact q1
/-- what is seen -/
def vis (w : Wd) : Hp := fun a => if w.C a ≠ none ∨ a ∈ w.ι then w.H a else none
theorem vis_ex : Ex (vis w) w.H := fun a o q => by
  unfold vis at q
  split at q
  · exact q
  · cases q
theorem vis_C (r : Rel K w h) : Ex w.C (vis w) := fun a o q => by
  unfold vis
  rw [if_pos (.inl (by rw [q]; exact fun z => nomatch z))]
  exact r.ch a o q
theorem vis_own (r : Rel K w h) {a : Addr} (m : a ∈ w.ι) : vis w a = w.H a := by unfold vis; rw [if_pos (.inr m)]
end
/-! ### a value with its lists told -/
def mapO {α β : Type} (f : α → Option β) : List α → Option (List β)
  | [] => some []
  | x :: xs => match f x with
    | some y => (mapO f xs).map (y :: ·)
    | none => none
theorem mapO_some {α β : Type} {f : α → Option β} {g : α → β} : ∀ {xs : List α}, (∀ x ∈ xs, f x = some (g x)) → mapO f xs = some (xs.map g)
  | [], _ => rfl
  | x :: xs, h => by
    unfold mapO
    rw [h x List.mem_cons_self, mapO_some fun y m => h y (List.mem_cons_of_mem _ m)]
    rfl
def reify : Nat → MH → MV → Option PyData
  | 0, _, .d p => some p
  | 0, _, _ => none
  | _ + 1, _, .d p => some p
  | k + 1, h, .ref n => match h[n]? with
    | some (.lst xs) => (mapO (reify k h) xs).map .list
    | _ => none
  | k + 1, h, .tup xs => (mapO (reify k h) xs).map .tuple
theorem reify_d (k : Nat) (h : MH) (p : PyData) : reify k h (.d p) = some p := by cases k <;> rfl
theorem mapO_reify_d (k : Nat) (h : MH) (ds : List PyData) : mapO (reify k h) (ds.map .d) = some ds := by
  induction ds with
  | nil => rfl
  | cons d ds ih => rw [List.map_cons, mapO, reify_d, ih]; rfl
section
variable {K : PySem.W.Frag} {w : Wd} {h : MH}
theorem reify_ok (r : Rel K w h) : ∀ (k : Nat) {v : V} {x : MV} {p : PyData}, Rep K w.ι w.C v x → reify k h x = some p → Dp K (vis w) v p := by
  intro k
  induction k with
  | zero =>
    intro v x p q e
    cases q with
    | d q => cases e; exact dpx (vis_C r) q
    | ref q => cases e
    | tup q a => cases e
  | succ k ih =>
    have all : ∀ {vs : List V} {xs : List MV} {ps : List PyData}, RepA K w.ι w.C vs xs → mapO (reify k h) xs = some ps → DpAll K (vis w) vs ps := by
      intro vs xs
      induction xs generalizing vs with
      | nil => intro ps a e; cases a; cases e; exact .nil
      | cons x xs ihx =>
        intro ps a e
        cases a with
        | cons a1 a2 =>
          rw [mapO] at e
          cases e1 : reify k h x with
          | none => rw [e1] at e; cases e
          | some p =>
            rw [e1] at e
            cases e2 : mapO (reify k h) xs with
            | none => rw [e2] at e; cases e
            | some qs => rw [e2] at e; cases e; exact .cons (ih a1 e1) (ihx a2 e2)
    intro v x p q e
    cases q with
    | d q => cases e; exact dpx (vis_C r) q
    | ref q =>
      rename_i n a
      rw [reify] at e
      cases e1 : h[n]? with
      | none => rw [e1] at e; cases e
      | some b =>
        rw [e1] at e
        obtain ⟨o, h1, h2⟩ := r.ob n a b q e1
        cases h2 with
        | lst h2 =>
          rename_i vs xs
          cases e2 : mapO (reify k h) xs with
          | none => simp only [e2] at e; cases e
          | some ps =>
            simp only [e2] at e
            cases e
            exact .lst (.inl (.inl (by rw [vis_own r (List.mem_of_getElem? q)]; exact h1))) (all h2 e2)
        | dct _ _ => cases e
        | dctT _ _ => cases e
        | tab _ _ => cases e
        | dv _ => cases e
    | tup q a =>
      rename_i ad vs xs
      rw [reify] at e
      cases e2 : mapO (reify k h) xs with
      | none => rw [e2] at e; cases e
      | some ps => rw [e2] at e; cases e; exact .tup (ex_t (vis_C r) (sqt q)) (all a e2)
theorem reifyA_ok (r : Rel K w h) (k : Nat) : ∀ {vs : List V} {xs : List MV} {ps : List PyData}, RepA K w.ι w.C vs xs → mapO (reify k h) xs = some ps → DpAll K (vis w) vs ps := by
  intro vs xs
  induction xs generalizing vs with
  | nil => intro ps a e; cases a; cases e; exact .nil
  | cons x xs ihx =>
    intro ps a e
    cases a with
    | cons a1 a2 =>
      rw [mapO] at e
      cases e1 : reify k h x with
      | none => rw [e1] at e; cases e
      | some p =>
        rw [e1] at e
        cases e2 : mapO (reify k h) xs with
        | none => rw [e2] at e; cases e
        | some qs => rw [e2] at e; cases e; exact .cons (reify_ok r k a1 e1) (ihx a2 e2)
end
/-! ### slots -/
structure RepE (K : PySem.W.Frag) (w : Wd) (σ : L2.St) (env : Env) : Prop where
  len : σ.length = env.length
  at_ : ∀ (i : Nat) (x : MV), env[i]? = some (some x) → ∃ v : V, σ[i]? = some (some v) ∧ Rep K w.ι w.C v x
section
variable {K : PySem.W.Frag} {w w' : Wd} {σ : L2.St} {env : Env}
theorem RepE.up (s : Step w w') (e : RepE K w σ env) : RepE K w' σ env := ⟨e.len, fun i x q => by
  obtain ⟨v, h1, h2⟩ := e.at_ i x q
  exact ⟨v, h1, h2.up s⟩⟩
theorem RepE.put {v : V} {x : MV} (e : RepE K w σ env) (r : Rep K w.ι w.C v x) (i : Nat) : RepE K w (σ.set i (some v)) (env.set i (some x)) := by
  refine ⟨by rw [List.length_set, List.length_set, e.len], fun j y q => ?_⟩
  by_cases z : i = j
  · subst z
    have hl : i < env.length := by
      have := (List.getElem?_eq_some_iff.mp q).1
      rwa [List.length_set] at this
    rw [List.getElem?_set_self hl] at q
    cases q
    exact ⟨v, List.getElem?_set_self (by rw [e.len]; exact hl), r⟩
  · rw [List.getElem?_set_ne z] at q ⊢
    exact e.at_ j y q
def wipeM (env : Env) : List Nat → Env
  | [] => env
  | v :: vs => (wipeM env vs).set v none
theorem RepE.wipe (e : RepE K w σ env) : ∀ vs : List Nat, RepE K w (wipe σ vs) (wipeM env vs)
  | [] => e
  | v :: vs => by
    have ih := e.wipe vs
    refine ⟨by show (List.set _ _ _).length = (List.set _ _ _).length; rw [List.length_set, List.length_set, ih.len], fun j y q => ?_⟩
    replace q : ((wipeM env vs).set v none)[j]? = some (some y) := q
    show ∃ u, ((L2.wipe σ vs).set v none)[j]? = some (some u) ∧ _
    by_cases z : v = j
    · subst z
      rw [List.getElem?_set] at q
      simp only [if_true] at q
      split at q <;> simp at q
    · rw [List.getElem?_set_ne z] at q ⊢
      exact ih.at_ j y q
end
end M
namespace M
open PySem PySem.Spec PyProof.Rows L2
open Evl (Ex ex_rd ex_l ex_t rMax2)
open G (dpx dpax dpa_len dpa_get dpa_app dpa_set ex_none wipe_get wipe_eq wipe_wipe RD UD CD Ret)
abbrev ME := Env → MH → Option (MV × MH)
abbrev MA := Env → MH → Option (List MV × MH)
abbrev MT := Env → MH → Option (Bool × MH)
abbrev MO2 := MV → MV → MH → Option (MV × MH)
abbrev MO1 := MV → MH → Option (MV × MH)
abbrev MCa := List MV → MH → Option (MV × MH)
def SimE (K : PySem.W.Frag) (te : TE) (me : ME) : Prop := ∀ w h σ env v h', Rel K w h → RepE K w σ env → me env h = some (v, h') → ∀ Q : VK, (∀ w' u, Step w w' → Rel K w' h' → Rep K w'.ι w'.C u v → Q u w'.H) → te σ w.H Q
def SimT (K : PySem.W.Frag) (tt : TT) (mt : MT) : Prop := ∀ w h σ env b h', Rel K w h → RepE K w σ env → mt env h = some (b, h') → ∀ Q : Bool → Hp → Prop, (∀ w', Step w w' → Rel K w' h' → Q b w'.H) → tt σ w.H Q
def SimA (K : PySem.W.Frag) (ta : TA) (ma : MA) : Prop := ∀ w h σ env xs h', Rel K w h → RepE K w σ env → ma env h = some (xs, h') → ∀ Q : List V → Hp → Prop, (∀ w' us, Step w w' → Rel K w' h' → RepA K w'.ι w'.C us xs → Q us w'.H) → ta σ w.H Q
/-- a new list -/
def SimF (K : PySem.W.Frag) (te : TE) (mf : MA) : Prop := ∀ w h σ env xs h', Rel K w h → RepE K w σ env → mf env h = some (xs, h') → ∀ Q : VK,
  (∀ w' p vs, Step w w' → Rel K w' h' → w.H p = none → w'.H p = some (.lst vs) → p ∉ w'.ι → w'.C p = none → RepA K w'.ι w'.C vs xs → Q (.ref p) w'.H) → te σ w.H Q
def SimR (K : PySem.W.Frag) (r : R2) (mr : MO2) : Prop := ∀ w h x y a b v h', Rel K w h → Rep K w.ι w.C x a → Rep K w.ι w.C y b → mr a b h = some (v, h') → ∀ Q : VK, (∀ w' u, Step w w' → Rel K w' h' → Rep K w'.ι w'.C u v → Q u w'.H) → r x y w.H Q
def SimU (K : PySem.W.Frag) (r : V → Hp → VK → Prop) (mr : MO1) : Prop := ∀ w h x a v h', Rel K w h → Rep K w.ι w.C x a → mr a h = some (v, h') → ∀ Q : VK, (∀ w' u, Step w w' → Rel K w' h' → Rep K w'.ι w'.C u v → Q u w'.H) → r x w.H Q
def SimC (K : PySem.W.Frag) (r : List V → Hp → VK → Prop) (mr : MCa) : Prop := ∀ w h us xs v h', Rel K w h → RepA K w.ι w.C us xs → mr xs h = some (v, h') → ∀ Q : VK, (∀ w' u, Step w w' → Rel K w' h' → Rep K w'.ι w'.C u v → Q u w'.H) → r us w.H Q
def SimCF (K : PySem.W.Frag) (r : List V → Hp → VK → Prop) (mr : List MV → MH → Option (List MV × MH)) : Prop := ∀ w h us xs ys h', Rel K w h → RepA K w.ι w.C us xs → mr xs h = some (ys, h') → ∀ Q : VK,
  (∀ w' p vs, Step w w' → Rel K w' h' → w.H p = none → w'.H p = some (.lst vs) → p ∉ w'.ι → w'.C p = none → RepA K w'.ι w'.C vs ys → Q (.ref p) w'.H) → r us w.H Q
/-! ### expressions -/
def mVar (i : Nat) : ME := fun env h => match env[i]? with
  | some (some v) => some (v, h)
  | _ => none
def mK (p : PyData) : ME := fun _ h => some (.d p, h)
def mOp (mr : MO2) (ma mb : ME) : ME := fun env h => (ma env h).bind fun r => (mb env r.2).bind fun q => mr r.1 q.1 q.2
def mUn (mr : MO1) (ma : ME) : ME := fun env h => (ma env h).bind fun r => mr r.1 r.2
def mNil : MA := fun _ h => some ([], h)
def mCons (ma : ME) (mr : MA) : MA := fun env h => (ma env h).bind fun r => (mr env r.2).bind fun q => some (r.1 :: q.1, q.2)
def mCB (mr : MCa) (ma : MA) : ME := fun env h => (ma env h).bind fun r => mr r.1 r.2
def mTup (ma : MA) : ME := fun env h => (ma env h).bind fun r => if r.1.length ≤ 100000 then some (mkTup r.1, r.2) else none
def mLst (ma : MA) : MA := fun env h => (ma env h).bind fun r => if r.1.length ≤ 100000 then some (r.1, r.2) else none
/-- a new list: only read from now on; of one's own -/
def mDat (mf : MA) : ME := fun env h => (mf env h).bind fun r => (allD r.1).map fun ds => (.d (.list ds), r.2)
def mNew (mf : MA) : ME := fun env h => (mf env h).map fun r => (.ref r.2.length, r.2 ++ [.lst r.1])
def mIf (mt : MT) (ma mb : ME) : ME := fun env h => (mt env h).bind fun r => if r.1 = true then ma env r.2 else mb env r.2
def asB : MV × MH → Option (Bool × MH)
  | (.d (.bool b), h) => some (b, h)
  | _ => none
def mTest (me : ME) : MT := fun env h => (me env h).bind asB
def mNot (mt : MT) : MT := fun env h => (mt env h).map fun r => (!r.1, r.2)
def mAnd (mt mu : MT) : MT := fun env h => (mt env h).bind fun r => if r.1 = true then mu env r.2 else some (false, r.2)
def mOr (mt mu : MT) : MT := fun env h => (mt env h).bind fun r => if r.1 = true then some (true, r.2) else mu env r.2
def mYes : MT := fun _ h => some (true, h)
def mOfT (mt : MT) : ME := fun env h => (mt env h).map fun r => (.d (.bool r.1), r.2)
def mAndV (ma mb : ME) : ME := fun env h => (mTest ma env h).bind fun r => if r.1 = true then mb env r.2 else some (.d (.bool false), r.2)
def mOrV (ma mb : ME) : ME := fun env h => (mTest ma env h).bind fun r => if r.1 = true then some (.d (.bool true), r.2) else mb env r.2
def mNotV (ma : ME) : ME := fun env h => (mTest ma env h).map fun r => (.d (.bool (!r.1)), r.2)
def mChain (mr mr' : MO2) (ma mb mc : ME) : ME := fun env h => (ma env h).bind fun r => (mb env r.2).bind fun q => (mr r.1 q.1 q.2).bind fun z => (asB z).bind fun c =>
  if c.1 = true then (mc env c.2).bind fun t => mr' q.1 t.1 t.2 else some (.d (.bool false), c.2)
section
variable {K : PySem.W.Frag} {te ta tb tc : TE} {me ma mb mc : ME} {tt tu : TT} {mt mu : MT} {tl : TA} {ml : MA}
theorem bind_of {α β : Type} {o : Option α} {f : α → Option β} {b : β} (h : o.bind f = some b) : ∃ a, o = some a ∧ f a = some b := by
  cases o with
  | none => cases h
  | some a => exact ⟨a, rfl, h⟩
theorem map_of {α β : Type} {o : Option α} {f : α → β} {b : β} (h : o.map f = some b) : ∃ a, o = some a ∧ f a = b := by
  cases o with
  | none => cases h
  | some a => exact ⟨a, rfl, Option.some.inj h⟩
theorem asB_of {r : MV × MH} {q : Bool × MH} (h : asB r = some q) : r = (.d (.bool q.1), q.2) := by
  unfold asB at h
  split at h
  · cases h; rfl
  · cases h
theorem sm_var {i : Nat} : SimE K (tVar i) (mVar i) := fun w h σ env v h' rl re e Q q => by
  unfold mVar at e
  split at e
  · rename_i x ex
    cases e
    obtain ⟨u, h1, h2⟩ := re.at_ i v ex
    exact ⟨u, h1, q w u (.refl _) rl h2⟩
  · cases e
theorem sm_K {v : V} {p : PyData} (hd : ∀ C, Dp K C v p) : SimE K (tC v) (mK p) := fun w h σ env x h' rl re e Q q => by
  cases e
  exact q w v (.refl _) rl (.d (hd _))
theorem sm_int {i : Int} : SimE K (tC (.int i)) (mK (.int i)) := sm_K fun _ => .int i
theorem sm_bl {b : Bool} : SimE K (tC (.bl b)) (mK (.bool b)) := sm_K fun _ => .bl b
theorem sm_str {x : Str} : SimE K (tC (.str x)) (mK (.str x)) := sm_K fun _ => .str x
theorem sm_non : SimE K (tC .non) (mK .none) := sm_K fun _ => .non
theorem sm_op {r : R2} {mr : MO2} (ha : SimE K ta ma) (hb : SimE K tb mb) (hr : SimR K r mr) : SimE K (tOp r ta tb) (mOp mr ma mb) := fun w h σ env v h' rl re e Q q => by
  obtain ⟨⟨a, h1⟩, e1, e⟩ := bind_of e
  obtain ⟨⟨b, h2⟩, e2, e⟩ := bind_of e
  exact ha w h σ env a h1 rl re e1 _ fun w1 x s1 r1 x1 => hb w1 h1 σ env b h2 r1 (re.up s1) e2 _ fun w2 y s2 r2 y2 => hr w2 h2 x y a b v h' r2 (x1.up s2) y2 e _ fun w3 u s3 r3 u3 => q w3 u ((s1.trans s2).trans s3) r3 u3
theorem sm_un {r : V → Hp → VK → Prop} {mr : MO1} (ha : SimE K ta ma) (hr : SimU K r mr) : SimE K (tUn r ta) (mUn mr ma) := fun w h σ env v h' rl re e Q q => by
  obtain ⟨⟨a, h1⟩, e1, e⟩ := bind_of e
  exact ha w h σ env a h1 rl re e1 _ fun w1 x s1 r1 x1 => hr w1 h1 x a v h' r1 x1 e _ fun w3 u s3 r3 u3 => q w3 u (s1.trans s3) r3 u3
theorem sm_nil : SimA K tNil mNil := fun w h σ env xs h' rl re e Q q => by
  cases e
  exact q w [] (.refl _) rl .nil
theorem sm_cons (ha : SimE K ta ma) (hl : SimA K tl ml) : SimA K (tCons ta tl) (mCons ma ml) := fun w h σ env xs h' rl re e Q q => by
  obtain ⟨⟨a, h1⟩, e1, e⟩ := bind_of e
  obtain ⟨⟨b, h2⟩, e2, e⟩ := bind_of e
  cases e
  exact ha w h σ env a h1 rl re e1 _ fun w1 x s1 r1 x1 => hl w1 h1 σ env b h2 r1 (re.up s1) e2 _ fun w2 ys s2 r2 y2 => q w2 (x :: ys) (s1.trans s2) r2 (.cons (x1.up s2) y2)
theorem sm_cb {r : List V → Hp → VK → Prop} {mr : MCa} (ha : SimA K tl ml) (hr : SimC K r mr) : SimE K (tCB r tl) (mCB mr ml) := fun w h σ env v h' rl re e Q q => by
  obtain ⟨⟨a, h1⟩, e1, e⟩ := bind_of e
  exact ha w h σ env a h1 rl re e1 _ fun w1 x s1 r1 x1 => hr w1 h1 x a v h' r1 x1 e _ fun w3 u s3 r3 u3 => q w3 u (s1.trans s3) r3 u3
def mCBF (mr : List MV → MH → Option (List MV × MH)) (ml : MA) : MA := fun env h => (ml env h).bind fun r => mr r.1 r.2
theorem sm_cbF {r : List V → Hp → VK → Prop} {mr : List MV → MH → Option (List MV × MH)} (ha : SimA K tl ml) (hr : SimCF K r mr) : SimF K (tCB r tl) (mCBF mr ml) := fun w h σ env v h' rl re e Q q => by
  obtain ⟨⟨a, h1⟩, e1, e⟩ := bind_of e
  exact ha w h σ env a h1 rl re e1 _ fun w1 x s1 r1 x1 => hr w1 h1 x a v h' r1 x1 e _ fun w3 p vs s3 r3 f1 f2 f3 f4 f5 => q w3 p vs (s1.trans s3) r3 (by
    cases z : w.H p with
    | none => rfl
    | some o => exact absurd f1 (s1.kp p (by rw [z]; exact fun q => nomatch q))) f2 f3 f4 f5
theorem sl_100000 : (100000 : Nat) ≤ sizeLine := by rw [sizeLine_eq]; decide
theorem sm_tup (ha : SimA K tl ml) : SimE K (tTup tl) (mTup ml) := fun w h σ env v h' rl re e Q q => by
  obtain ⟨⟨a, h1⟩, e1, e⟩ := bind_of e
  simp only at e
  split at e
  · rename_i hz
    cases e
    refine ha w h σ env _ _ rl re e1 _ fun w1 xs s1 r1 x1 => ⟨by rw [x1.len]; exact Nat.le_trans hz sl_100000, fun p hp => ?_⟩
    obtain ⟨s2, r2⟩ := know_ok (o := .tup xs) r1 hp
    exact q (w1.know p (.tup xs)) _ (s1.trans s2) r2 (mkTup_rep upd_same (x1.up s2))
  · cases e
theorem sm_lst (ha : SimA K tl ml) : SimF K (tLst tl) (mLst ml) := fun w h σ env v h' rl re e Q q => by
  obtain ⟨⟨a, h1⟩, e1, e⟩ := bind_of e
  simp only at e
  split at e
  · rename_i hz
    cases e
    refine ha w h σ env _ _ rl re e1 _ fun w1 xs s1 r1 x1 => ⟨by rw [x1.len]; exact Nat.le_trans hz sl_100000, fun p hp => ?_⟩
    exact q ⟨w1.ι, w1.C, upd w1.H p (.lst xs)⟩ p xs ⟨s1.pre, s1.ex, fun a o e n => by
        show upd w1.H p _ a = _
        have := s1.fr a o e n
        rw [upd_ne (fun z => by rw [z, hp] at this; cases this)]; exact this, s1.nw, s1.nc, fun a e => by
        show upd w1.H p _ a ≠ none
        have := s1.kp a e
        rw [upd_ne (fun z => this (by rw [z, hp]))]; exact this⟩
      ⟨fun a o e => by
        show upd w1.H p _ a = _
        have := r1.ch a o e
        rw [upd_ne (fun z => by rw [z, hp] at this; cases this)]; exact this, r1.len, r1.nd, r1.ow, fun n a b e1 e2 => by
        obtain ⟨o, h1, h2⟩ := r1.ob n a b e1 e2
        refine ⟨o, ?_, h2⟩
        show upd w1.H p _ a = _
        rw [upd_ne (fun z => by rw [z, hp] at h1; cases h1)]; exact h1⟩
      (by
        cases z : w.H p with
        | none => rfl
        | some o => exact absurd hp (s1.kp p (by rw [z]; exact fun q => nomatch q))) upd_same (r1.notin hp) (r1.cnone hp) x1
  · cases e
theorem sm_dat (h : SimF K te ml) : SimE K te (mDat ml) := fun w h0 σ env v h' rl re e Q q => by
  obtain ⟨⟨xs, h1⟩, e1, e⟩ := bind_of e
  obtain ⟨ds, e2, e⟩ := map_of e
  cases e
  refine h w h0 σ env xs h1 rl re e1 Q fun w1 p vs s r f1 f2 f3 f4 f5 => ?_
  replace e2 : allD xs = some ds := e2
  rw [allD_eq e2] at f5
  have ex : Ex w1.C (upd w1.C p (.lst vs)) := Ex.new f4
  refine q ⟨w1.ι, upd w1.C p (.lst vs), w1.H⟩ (.ref p) ⟨s.pre, s.ex.trans ex, s.fr, s.nw, fun a n c => ?_, s.kp⟩ ⟨fun a o e => ?_, r.len, r.nd, fun a m => ?_, fun n a b e1 e2 => ?_⟩ (.d (.lst (.inl (.inl upd_same)) (dpax ex f5.toD)))
  · show upd w1.C p _ a = _
    rw [upd_ne (fun z => n (by rw [z]; exact f1))]; exact s.nc a n c
  · replace e : upd w1.C p _ a = _ := e
    by_cases z : a = p
    · subst z; rw [upd_same] at e; cases e; exact f2
    · rw [upd_ne z] at e; exact r.ch a o e
  · show upd w1.C p _ a = _
    rw [upd_ne (fun z => f3 (by rw [← z]; exact m))]; exact r.ow a m
  · obtain ⟨o, g1, g2⟩ := r.ob n a b e1 e2
    exact ⟨o, g1, g2.mono (List.prefix_refl _) ex⟩
theorem sm_new (h : SimF K te ml) : SimE K te (mNew ml) := fun w h0 σ env v h' rl re e Q q => by
  obtain ⟨⟨xs, h1⟩, e1, e⟩ := map_of e
  cases e
  refine h w h0 σ env xs h1 rl re e1 Q fun w1 p vs s r f1 f2 f3 f4 f5 => ?_
  replace r : Rel K w1 h1 := r
  have pf : w1.ι <+: w1.ι ++ [p] := List.prefix_append _ _
  refine q ⟨w1.ι ++ [p], w1.C, w1.H⟩ (.ref p) ⟨s.pre.trans pf, s.ex, s.fr, fun a m => ?_, s.nc, s.kp⟩ ⟨r.ch, ?_, ?_, fun a m => ?_, fun n a b e1 e2 => ?_⟩ (.ref ?_)
  · rcases List.mem_append.mp m with z | z
    · exact s.nw a z
    · rw [List.mem_singleton.mp z]; exact .inr f1
  · show (w1.ι ++ [p]).length = _
    rw [List.length_append, List.length_append, r.len]; rfl
  · refine List.nodup_append.mpr ⟨r.nd, by simp, fun a m b m' => ?_⟩
    rw [List.mem_singleton.mp m']
    exact fun z => f3 (by rw [← z]; exact m)
  · rcases List.mem_append.mp m with z | z
    · exact r.ow a z
    · rw [List.mem_singleton.mp z]; exact f4
  · replace e1 : (w1.ι ++ [p])[n]? = some a := e1
    replace e2 : (h1 ++ [Ob.lst xs])[n]? = some b := e2
    by_cases z : n < h1.length
    · rw [List.getElem?_append_left z] at e2
      rw [List.getElem?_append_left (by rw [r.len]; exact z)] at e1
      obtain ⟨o, q1, q2⟩ := r.ob n a b e1 e2
      exact ⟨o, q1, q2.mono pf fun _ _ q => q⟩
    · rw [List.getElem?_append_right (by omega)] at e2
      rw [List.getElem?_append_right (by rw [r.len]; omega), r.len] at e1
      have hz : n - h1.length = 0 := by
        cases hn : n - h1.length with
        | zero => rfl
        | succ k => rw [hn] at e2; simp at e2
      rw [hz] at e2 e1
      simp at e2 e1
      subst e2 e1
      exact ⟨_, f2, .lst (f5.mono pf fun _ _ q => q)⟩
  · show (w1.ι ++ [p])[h1.length]? = some p
    rw [← r.len, List.getElem?_append_right (Nat.le_refl _), Nat.sub_self]; rfl
theorem sm_if (ht : SimT K tt mt) (ha : SimE K ta ma) (hb : SimE K tb mb) : SimE K (tIf tt ta tb) (mIf mt ma mb) := fun w h σ env v h' rl re e Q q => by
  obtain ⟨⟨b, h1⟩, e1, e⟩ := bind_of e
  refine ht w h σ env b h1 rl re e1 _ fun w1 s1 r1 => ?_
  cases b with
  | true => exact iteT (ha w1 h1 σ env v h' r1 (re.up s1) e Q fun w2 u s2 => q w2 u (s1.trans s2))
  | false => exact iteF (hb w1 h1 σ env v h' r1 (re.up s1) e Q fun w2 u s2 => q w2 u (s1.trans s2))
theorem Rep.bool {w : Wd} {u : V} {b : Bool} (h : Rep K w.ι w.C u (.d (.bool b))) : u = .bl b := by cases h with | d h => cases h; rfl
theorem sm_test (h : SimE K te me) : SimT K (tTest te) (mTest me) := fun w h0 σ env b h' rl re e Q q => by
  obtain ⟨r, e1, e⟩ := bind_of e
  have := asB_of e
  subst this
  exact h w h0 σ env _ _ rl re e1 _ fun w1 u s r x => ⟨b, x.bool, q w1 s r⟩
theorem sm_B (h : SimE K te me) : SimT K (tB te) (mTest me) := sm_test h
theorem sm_not (h : SimT K tt mt) : SimT K (tNot tt) (mNot mt) := fun w h0 σ env b h' rl re e Q q => by
  obtain ⟨⟨c, h1⟩, e1, e⟩ := map_of e
  cases e
  exact h w h0 σ env c h1 rl re e1 _ fun w1 s r => q w1 s r
theorem sm_and (h : SimT K tt mt) (hu : SimT K tu mu) : SimT K (tAnd tt tu) (mAnd mt mu) := fun w h0 σ env b h' rl re e Q q => by
  obtain ⟨⟨c, h1⟩, e1, e⟩ := bind_of e
  refine h w h0 σ env c h1 rl re e1 _ fun w1 s1 r1 => ?_
  cases c with
  | true => exact iteT (hu w1 h1 σ env b h' r1 (re.up s1) e Q fun w2 s2 => q w2 (s1.trans s2))
  | false => cases e; exact iteF (q w1 s1 r1)
theorem sm_or (h : SimT K tt mt) (hu : SimT K tu mu) : SimT K (tOr tt tu) (mOr mt mu) := fun w h0 σ env b h' rl re e Q q => by
  obtain ⟨⟨c, h1⟩, e1, e⟩ := bind_of e
  refine h w h0 σ env c h1 rl re e1 _ fun w1 s1 r1 => ?_
  cases c with
  | false => exact iteF (hu w1 h1 σ env b h' r1 (re.up s1) e Q fun w2 s2 => q w2 (s1.trans s2))
  | true => cases e; exact iteT (q w1 s1 r1)
theorem sm_yes : SimT K tYes mYes := fun w h0 σ env b h' rl re e Q q => by
  cases e
  exact q w (.refl _) rl
theorem sm_andV (ha : SimE K ta ma) (hb : SimE K tb mb) : SimE K (tAndV ta tb) (mAndV ma mb) := fun w h σ env v h' rl re e Q q => by
  obtain ⟨⟨c, h1⟩, e1, e⟩ := bind_of e
  obtain ⟨r, e2, e1⟩ := bind_of e1
  have := asB_of e1
  subst this
  refine ha w h σ env _ _ rl re e2 _ fun w1 u s1 r1 x => ⟨c, x.bool, ?_⟩
  cases c with
  | true => exact iteT (hb w1 h1 σ env v h' r1 (re.up s1) e Q fun w2 u s2 => q w2 u (s1.trans s2))
  | false => cases e; exact iteF (q w1 _ s1 r1 (.d (.bl _)))
theorem sm_orV (ha : SimE K ta ma) (hb : SimE K tb mb) : SimE K (tOrV ta tb) (mOrV ma mb) := fun w h σ env v h' rl re e Q q => by
  obtain ⟨⟨c, h1⟩, e1, e⟩ := bind_of e
  obtain ⟨r, e2, e1⟩ := bind_of e1
  have := asB_of e1
  subst this
  refine ha w h σ env _ _ rl re e2 _ fun w1 u s1 r1 x => ⟨c, x.bool, ?_⟩
  cases c with
  | false => exact iteF (hb w1 h1 σ env v h' r1 (re.up s1) e Q fun w2 u s2 => q w2 u (s1.trans s2))
  | true => cases e; exact iteT (q w1 _ s1 r1 (.d (.bl _)))
theorem sm_notV (ha : SimE K ta ma) : SimE K (tNotV ta) (mNotV ma) := fun w h σ env v h' rl re e Q q => by
  obtain ⟨⟨c, h1⟩, e1, e⟩ := map_of e
  cases e
  obtain ⟨r, e2, e1⟩ := bind_of e1
  have := asB_of e1
  subst this
  exact ha w h σ env _ _ rl re e2 _ fun w1 u s1 r1 x => ⟨c, x.bool, q w1 _ s1 r1 (.d (.bl _))⟩
theorem sm_chain {r r' : R2} {mr mr' : MO2} (ha : SimE K ta ma) (hb : SimE K tb mb) (hc : SimE K tc mc) (hr : SimR K r mr) (hr' : SimR K r' mr') : SimE K (tChain r r' ta tb tc) (mChain mr mr' ma mb mc) := fun w h σ env v h' rl re e Q q => by
  obtain ⟨⟨a, h1⟩, e1, e⟩ := bind_of e
  obtain ⟨⟨b, h2⟩, e2, e⟩ := bind_of e
  obtain ⟨z, e3, e⟩ := bind_of e
  obtain ⟨⟨c, h3⟩, e4, e⟩ := bind_of e
  have := asB_of e4
  subst this
  refine ha w h σ env a h1 rl re e1 _ fun w1 x s1 r1 x1 => hb w1 h1 σ env b h2 r1 (re.up s1) e2 _ fun w2 y s2 r2 y2 => hr w2 h2 x y a b _ h3 r2 (x1.up s2) y2 e3 _ fun w3 u s3 r3 u3 => ⟨c, u3.bool, ?_⟩
  have s13 := (s1.trans s2).trans s3
  cases c with
  | true =>
    replace e : (mc env h3).bind (fun t => mr' b t.1 t.2) = some (v, h') := e
    obtain ⟨⟨t, h4⟩, e5, e⟩ := bind_of e
    exact iteT (hc w3 h3 σ env t h4 r3 (re.up s13) e5 _ fun w4 u4 s4 r4 x4 => hr' w4 h4 y u4 b t v h' r4 ((y2.up s3).up s4) x4 e _ fun w5 u5 s5 => q w5 u5 ((s13.trans s4).trans s5))
  | false => cases e; exact iteF (q w3 _ s13 r3 (.d (.bl _)))
end
end M
namespace M
open PySem PySem.Spec PyProof.Rows L2
open Evl (Ex ex_rd ex_l ex_t rMax2)
open G (dpx dpax dpa_len dpa_get dpa_app dpa_set ex_none wipe_get wipe_eq wipe_wipe RD UD CD Ret)
/-! ### targets -/
abbrev MG := MV → Env → Option Env
abbrev MGs := List MV → Env → Option Env
def SimG (K : PySem.W.Frag) (g : TG) (mg : MG) (js : List Nat) : Prop := ∀ w h σ env x v env', Rel K w h → RepE K w σ env → Rep K w.ι w.C x v → mg v env = some env' → ∀ Q : L2.St → Hp → Prop,
  (∀ σ', RepE K w σ' env' → σ'.length = σ.length → (∀ k, k ∉ js → σ'[k]? = σ[k]?) → Q σ' w.H) → g x σ w.H Q
def SimGs (K : PySem.W.Frag) (g : TGs) (mg : MGs) (js : List Nat) : Prop := ∀ w h σ env xs vs env', Rel K w h → RepE K w σ env → RepA K w.ι w.C xs vs → mg vs env = some env' → ∀ Q : L2.St → Hp → Prop,
  (∀ σ', RepE K w σ' env' → σ'.length = σ.length → (∀ k, k ∉ js → σ'[k]? = σ[k]?) → Q σ' w.H) → g xs σ w.H Q
def mgName (i : Nat) : MG := fun v env => some (env.set i (some v))
def mgNil : MGs := fun vs env => match vs with
  | [] => some env
  | _ => none
def mgCons (g : MG) (gs : MGs) : MGs := fun vs env => match vs with
  | v :: r => (g v env).bind (gs r)
  | _ => none
def mgTup (n : Nat) (gs : MGs) : MG := fun v env => match v with
  | .d (.tuple ds) => if ds.length = n then gs (ds.map .d) env else none
  | .tup xs => if xs.length = n then gs xs env else none
  | _ => none
section
variable {K : PySem.W.Frag} {js : List Nat}
theorem sg_name {i : Nat} (hi : i ∈ js) : SimG K (gName i) (mgName i) js := fun w h σ env x v env' rl re rx e Q q => by
  cases e
  refine q _ (re.put rx i) (List.length_set) fun k hk => ?_
  rw [List.getElem?_set_ne]
  exact fun z => hk (z ▸ hi)
theorem sg_nil : SimGs K gNil mgNil js := fun w h σ env xs vs env' rl re rx e Q q => by
  cases rx with
  | nil => cases e; exact ⟨rfl, q _ re rfl fun _ _ => rfl⟩
  | cons _ _ => cases e
theorem sg_cons {g : TG} {mg : MG} {gs : TGs} {mgs : MGs} (h1 : SimG K g mg js) (h2 : SimGs K gs mgs js) : SimGs K (gCons g gs) (mgCons mg mgs) js := fun w h σ env xs vs env' rl re rx e Q q => by
  cases rx with
  | nil => cases e
  | cons r1 r2 =>
    obtain ⟨env1, e1, e⟩ := bind_of e
    exact ⟨_, _, rfl, h1 w h σ env _ _ env1 rl re r1 e1 _ fun σ1 re1 l1 k1 => h2 w h σ1 env1 _ _ env' rl re1 r2 e _ fun σ2 re2 l2 k2 => q σ2 re2 (l2.trans l1) fun k hk => (k2 k hk).trans (k1 k hk)⟩
theorem sg_tup {n : Nat} {gs : TGs} {mgs : MGs} (h1 : SimGs K gs mgs js) : SimG K (gTup K n gs) (mgTup n mgs) js := fun w h σ env x v env' rl re rx e Q q => by
  unfold mgTup at e
  split at e
  · rename_i ds
    split at e
    · rename_i hl
      cases rx with
      | d rx =>
        cases rx with
        | tup hq ha => exact ⟨_, _, rfl, ex_t rl.ch hq, by rw [dpa_len ha]; exact hl, h1 w h σ env _ _ env' rl re (RepA.ofD ha) e Q q⟩
    · cases e
  · rename_i xs
    split at e
    · rename_i hl
      cases rx with
      | tup hq ha => exact ⟨_, _, rfl, ex_t rl.ch (sqt hq), by rw [ha.len]; exact hl, h1 w h σ env _ _ env' rl re ha e Q q⟩
    · cases e
  · cases e
end
/-! ### statements -/
inductive MRes where
  | nx (env : Env) (h : MH)
  | rt (v : MV) (h : MH)
  | bk (env : Env) (h : MH)
  | ct (env : Env) (h : MH)
abbrev MS := Env → MH → Option MRes
def Post (K : PySem.W.Frag) (D : Ends) (w : Wd) : MRes → Prop
  | .nx env' h' => ∀ w' σ', Step w w' → Rel K w' h' → RepE K w' σ' env' → D.nx σ' w'.H
  | .rt v h' => ∀ w' u, Step w w' → Rel K w' h' → Rep K w'.ι w'.C u v → D.rt u w'.H
  | .bk env' h' => ∀ w' σ', Step w w' → Rel K w' h' → RepE K w' σ' env' → D.bk σ' w'.H
  | .ct env' h' => ∀ w' σ', Step w w' → Rel K w' h' → RepE K w' σ' env' → D.ct σ' w'.H
theorem Post.mono {K : PySem.W.Frag} {D : Ends} {w w' : Wd} {r : MRes} (p : Post K D w r) (s : Step w w') : Post K D w' r := by
  cases r with
  | nx e h => exact fun w2 σ s2 => p w2 σ (s.trans s2)
  | rt e h => exact fun w2 σ s2 => p w2 σ (s.trans s2)
  | bk e h => exact fun w2 σ s2 => p w2 σ (s.trans s2)
  | ct e h => exact fun w2 σ s2 => p w2 σ (s.trans s2)
def SimS (K : PySem.W.Frag) (t : TS) (ms : MS) : Prop := ∀ D w h σ env r, Rel K w h → RepE K w σ env → ms env h = some r → Post K D w r → t D σ w.H
def mSeqK (mb : MS) : MRes → Option MRes
  | .nx e h => mb e h
  | r => some r
def mSeq (ma mb : MS) : MS := fun env h => (ma env h).bind (mSeqK mb)
def mNext : MS := fun env h => some (.nx env h)
def mBreak : MS := fun env h => some (.bk env h)
def mCont : MS := fun env h => some (.ct env h)
def mAsg (me : ME) (g : MG) : MS := fun env h => (me env h).bind fun r => (g r.1 env).map fun e => .nx e r.2
def mDrop (me : ME) : MS := fun env h => (me env h).map fun r => .nx env r.2
def mRet (me : ME) : MS := fun env h => (me env h).map fun r => .rt r.1 r.2
def mRetN : MS := fun _ h => some (.rt (.d .none) h)
def mIfS (mt : MT) (ma mb : MS) : MS := fun env h => (mt env h).bind fun r => if r.1 = true then ma env r.2 else mb env r.2
def asI : MV → Option Int
  | .d (.int i) => some i
  | _ => none
theorem asI_of {v : MV} {i : Int} (h : asI v = some i) : v = .d (.int i) := by
  unfold asI at h
  split at h
  · cases h; rfl
  · cases h
def asL (h : MH) : MV → Option (Nat × List MV)
  | .ref n => match h[n]? with
    | some (.lst xs) => some (n, xs)
    | _ => none
  | _ => none
theorem asL_of {h : MH} {v : MV} {n : Nat} {xs : List MV} (e : asL h v = some (n, xs)) : v = .ref n ∧ h[n]? = some (.lst xs) := by
  cases v with
  | ref m =>
    unfold asL at e
    cases e1 : h[m]? with
    | none => simp only [e1] at e; cases e
    | some b =>
      cases b with
      | lst ys => simp only [e1] at e; cases e; exact ⟨rfl, e1⟩
      | dct _ => simp only [e1] at e; cases e
      | dctT _ => simp only [e1] at e; cases e
      | tab _ _ => simp only [e1] at e; cases e
      | dv _ => simp only [e1] at e; cases e
  | d _ => cases e
  | tup _ => cases e
def mAug (i : Nat) (me : ME) (f : Int → Int → Int) : MS := fun env h => (mVar i env h).bind fun a => (me env h).bind fun r => (asI a.1).bind fun x => (asI r.1).map fun y => .nx (env.set i (some (.d (.int (f x y))))) r.2
def mSetL (me mo mi : ME) : MS := fun env h => (me env h).bind fun r => (mo env r.2).bind fun o => (mi env o.2).bind fun i => (asL i.2 o.1).bind fun l => (asI i.1).bind fun k => (ixN l.2.length k).map fun j => .nx env (i.2.set l.1 (.lst (l.2.set j r.1)))
def mApp (mo me : ME) : MS := fun env h => (mo env h).bind fun o => (asL o.2 o.1).bind fun _ => (me env o.2).bind fun r => (asL r.2 o.1).bind fun l => if l.2.length < 100000 then some (.nx env (r.2.set l.1 (.lst (l.2 ++ [r.1])))) else none
section
variable {K : PySem.W.Frag} {t u : TS} {ms mu : MS} {te to_ ti : TE} {me mo mi : ME} {tt : TT} {mt : MT}
theorem ss_seq (h1 : SimS K t ms) (h2 : SimS K u mu) : SimS K (tSeq t u) (mSeq ms mu) := fun D w h σ env r rl re e p => by
  obtain ⟨a, e1, e⟩ := bind_of e
  refine h1 { D with nx := u D } w h σ env a rl re e1 ?_
  cases a with
  | nx env1 hh1 => exact fun w' σ' s1 r1 re1 => h2 D w' hh1 σ' env1 r r1 re1 e (p.mono s1)
  | rt v hh => cases e; exact p
  | bk v hh => cases e; exact p
  | ct v hh => cases e; exact p
theorem ss_next : SimS K tNext mNext := fun D w h σ env r rl re e p => by cases e; exact p w σ (.refl _) rl re
theorem ss_break : SimS K tBreak mBreak := fun D w h σ env r rl re e p => by cases e; exact p w σ (.refl _) rl re
theorem ss_cont : SimS K tCont mCont := fun D w h σ env r rl re e p => by cases e; exact p w σ (.refl _) rl re
theorem ss_asg {g : TG} {mg : MG} {js : List Nat} (h1 : SimE K te me) (h2 : SimG K g mg js) : SimS K (tAsg te g) (mAsg me mg) := fun D w h σ env r rl re e p => by
  obtain ⟨⟨a, hh⟩, e1, e⟩ := bind_of e
  obtain ⟨env1, e2, e⟩ := map_of e
  cases e
  exact h1 w h σ env a hh rl re e1 _ fun w1 u s1 r1 x1 => h2 w1 hh σ env u a env1 r1 (re.up s1) x1 e2 _ fun σ' re' _ _ => p w1 σ' s1 r1 re'
theorem ss_drop (h1 : SimE K te me) : SimS K (tDrop te) (mDrop me) := fun D w h σ env r rl re e p => by
  obtain ⟨⟨a, hh⟩, e1, e⟩ := map_of e
  cases e
  exact h1 w h σ env a hh rl re e1 _ fun w1 u s1 r1 x1 => p w1 σ s1 r1 (re.up s1)
theorem ss_ret (h1 : SimE K te me) : SimS K (tRet te) (mRet me) := fun D w h σ env r rl re e p => by
  obtain ⟨⟨a, hh⟩, e1, e⟩ := map_of e
  cases e
  exact h1 w h σ env a hh rl re e1 _ fun w1 u s1 r1 x1 => p w1 u s1 r1 x1
theorem ss_retN : SimS K tRetN mRetN := fun D w h σ env r rl re e p => by
  cases e
  exact p w .non (.refl _) rl (.d .non)
theorem ss_if (ht : SimT K tt mt) (h1 : SimS K t ms) (h2 : SimS K u mu) : SimS K (tIfS tt t u) (mIfS mt ms mu) := fun D w h σ env r rl re e p => by
  obtain ⟨⟨b, hh⟩, e1, e⟩ := bind_of e
  refine ht w h σ env b hh rl re e1 _ fun w1 s1 r1 => ?_
  cases b with
  | true => exact iteT (h1 D w1 hh σ env r r1 (re.up s1) e (p.mono s1))
  | false => exact iteF (h2 D w1 hh σ env r r1 (re.up s1) e (p.mono s1))
theorem Rep.int {w : Wd} {u : V} {i : Int} (h : Rep K w.ι w.C u (.d (.int i))) : u = .int i := by cases h with | d h => cases h; rfl
theorem ss_aug {i : Nat} {f : Int → Int → Int} (h1 : SimE K te me) : SimS K (tAug i te (ipI f)) (mAug i me f) := fun D w h σ env r rl re e p => by
  obtain ⟨⟨a, h0⟩, e0, e⟩ := bind_of e
  obtain ⟨⟨b, hh⟩, e1, e⟩ := bind_of e
  obtain ⟨x, e2, e⟩ := bind_of e
  obtain ⟨y, e3, e⟩ := map_of e
  cases e
  have ea := asI_of e2
  have eb := asI_of e3
  simp only at ea eb
  subst ea eb
  unfold mVar at e0
  split at e0
  · rename_i v ev
    cases e0
    obtain ⟨u, g1, g2⟩ := re.at_ i _ ev
    have := g2.int
    subst this
    exact ⟨_, g1, h1 w h σ env _ _ rl re e1 _ fun w1 y' s1 r1 x1 => ⟨x, y, rfl, x1.int, p w1 _ s1 r1 ((re.up s1).put (.d (.int _)) i)⟩⟩
  · cases e0
theorem Rel.look {w : Wd} {h : MH} (r : Rel K w h) {n : Nat} {v : V} {b : Ob} (x : Rep K w.ι w.C v (.ref n)) (e : h[n]? = some b) : ∃ a o, v = .ref a ∧ w.ι[n]? = some a ∧ w.H a = some o ∧ ObRep K w.ι w.C a o b := by
  cases x with
  | ref x => obtain ⟨o, h1, h2⟩ := r.ob n _ b x e; exact ⟨_, o, rfl, x, h1, h2⟩
theorem Rel.lst {w : Wd} {h : MH} (r : Rel K w h) {n : Nat} {v : V} {xs : List MV} (x : Rep K w.ι w.C v (.ref n)) (e : h[n]? = some (.lst xs)) : ∃ a vs, v = .ref a ∧ w.ι[n]? = some a ∧ w.H a = some (.lst vs) ∧ RepA K w.ι w.C vs xs := by
  obtain ⟨a, o, h1, h2, h3, h4⟩ := r.look x e
  cases h4 with
  | lst h4 => exact ⟨a, _, h1, h2, h3, h4⟩
theorem ss_setL (h1 : SimE K te me) (h2 : SimE K to_ mo) (h3 : SimE K ti mi) : SimS K (tAsg te (gSub to_ ti rSetL)) (mSetL me mo mi) := fun D w h σ env r rl re e p => by
  obtain ⟨⟨v, hh1⟩, e1, e⟩ := bind_of e
  obtain ⟨⟨o, hh2⟩, e2, e⟩ := bind_of e
  obtain ⟨⟨i, hh3⟩, e3, e⟩ := bind_of e
  obtain ⟨⟨n, xs⟩, e4, e⟩ := bind_of e
  obtain ⟨k, e5, e⟩ := bind_of e
  obtain ⟨j, e6, e⟩ := map_of e
  cases e
  obtain ⟨eo, ex⟩ := asL_of e4
  have ei := asI_of e5
  simp only at eo ei ex
  subst eo ei
  refine h1 w h σ env v hh1 rl re e1 _ fun w1 u1 s1 r1 x1 => h2 w1 hh1 σ env _ hh2 r1 (re.up s1) e2 _ fun w2 u2 s2 r2 x2 => h3 w2 hh2 σ env _ hh3 r2 ((re.up s1).up s2) e3 _ fun w3 u3 s3 r3 x3 => ?_
  obtain ⟨a, vs, rfl, g1, g2, g3⟩ := r3.lst (x2.up s3) ex
  have := x3.int
  subst this
  have x1' := (x1.up s2).up s3
  obtain ⟨s4, r4⟩ := write_ok (o := .lst (vs.set j u1)) r3 g1 (.lst (g3.setv x1' j))
  have ss := ((s1.trans s2).trans s3).trans s4
  exact ⟨a, vs, k, j, rfl, rfl, g2, by rw [g3.len]; exact e6, p (w3.write a _) σ ss r4 (re.up ss)⟩
theorem ss_app (h1 : SimE K to_ mo) (h2 : SimE K te me) : SimS K (tDrop (tBM K "list" rAppend to_ (tCons te tNil))) (mApp mo me) := fun D w h σ env r rl re e p => by
  obtain ⟨⟨o, hh1⟩, e1, e⟩ := bind_of e
  obtain ⟨⟨n0, xs0⟩, e0, e⟩ := bind_of e
  obtain ⟨⟨v, hh2⟩, e2, e⟩ := bind_of e
  obtain ⟨⟨n, xs⟩, e4, e⟩ := bind_of e
  simp only at e
  split at e
  · rename_i hz
    cases e
    obtain ⟨eo, ex⟩ := asL_of e4
    obtain ⟨eo0, ex0⟩ := asL_of e0
    simp only at eo ex eo0 ex0
    subst eo
    cases eo0
    refine h1 w h σ env _ hh1 rl re e1 _ fun w1 u1 s1 r1 x1 => ?_
    obtain ⟨a, vs0, rfl, g01, g02, g03⟩ := r1.lst x1 ex0
    refine ⟨.inl ⟨rfl, _, .inl (.inl g02)⟩, h2 w1 hh1 σ env v hh2 r1 (re.up s1) e2 _ fun w2 u2 s2 r2 x2 => ?_⟩
    obtain ⟨a', vs, ea, g1, g2, g3⟩ := r2.lst (x1.up s2) ex
    cases ea
    obtain ⟨s4, r4⟩ := write_ok (o := .lst (vs ++ [u2])) r2 g1 (.lst (g3.app (.cons x2 .nil)))
    have ss := (s1.trans s2).trans s4
    exact ⟨a, vs, u2, rfl, rfl, g2, by rw [g3.len]; exact Nat.lt_of_lt_of_le hz sl_100000, p (w2.write a _) σ ss r4 (re.up ss)⟩
  · cases e
end
/-! ### loops -/
open Classical in
noncomputable def srcIf {α : Type} (src : List (Nat × List MV)) (h : MH) (o : Option α) : Option α := if (∀ s ∈ src, h[s.1]? = some (.lst s.2)) then o else none
theorem srcIf_nil {α : Type} (h : MH) (o : Option α) : srcIf [] h o = o := by
  unfold srcIf
  rw [if_pos]
  intro s m; cases m
theorem srcIf_of {α : Type} {src : List (Nat × List MV)} {h : MH} {o : Option α} {a : α} (e : srcIf src h o = some a) : (∀ s ∈ src, h[s.1]? = some (.lst s.2)) ∧ o = some a := by
  unfold srcIf at e
  split at e
  · rename_i hs; exact ⟨hs, e⟩
  · cases e
abbrev MI := Env → MH → Option ((List (Nat × List MV) × List MV) × MH)
def ItS (K : PySem.W.Frag) (w : Wd) (src : List (Nat × List MV)) (items : List MV) (J : It) : Prop := ∀ w2 h2, Step w w2 → Rel K w2 h2 → (∀ s ∈ src, h2[s.1]? = some (.lst s.2)) →
  J.stop items.length w2.H ∧ ∀ (i : Nat) x, items[i]? = some x → J.go i w2.H ∧ ∀ u H', J.yld i w2.H u H' → ∃ w3, w3.H = H' ∧ Step w2 w3 ∧ Rel K w3 h2 ∧ Rep K w3.ι w3.C u x
def SimI (K : PySem.W.Frag) (wi : TI) (mi : MI) : Prop := ∀ w h σ env si h', Rel K w h → RepE K w σ env → mi env h = some (si, h') → ∀ R : It → Hp → Prop, (∀ w' J, Step w w' → Rel K w' h' → ItS K w' si.1 si.2 J → R J w'.H) → wi σ w.H R
noncomputable def mLoop (g : MG) (mb : MS) (src : List (Nat × List MV)) : List MV → Env → MH → Option MRes
  | [], env, h => srcIf src h (some (.nx env h))
  | x :: xs, env, h => srcIf src h ((g x env).bind fun env' => (mb env' h).bind fun r => match r with
    | .nx e h' => mLoop g mb src xs e h'
    | .ct e h' => mLoop g mb src xs e h'
    | .bk e h' => some (.nx e h')
    | .rt v h' => some (.rt v h'))
noncomputable def mFor (mi : MI) (g : MG) (mb : MS) : MS := fun env h => (mi env h).bind fun s => mLoop g mb s.1.1 s.1.2 env s.2
def mWLoop (mt : MT) (mb : MS) : Nat → Env → MH → Option MRes
  | 0, _, _ => none
  | n + 1, env, h => (mt env h).bind fun c => if c.1 = true then (mb env c.2).bind fun r => match r with
    | .nx e h' => mWLoop mt mb n e h'
    | .ct e h' => mWLoop mt mb n e h'
    | .bk e h' => some (.nx e h')
    | .rt v h' => some (.rt v h') else some (.nx env c.2)
def mWhile (n : Nat) (mt : MT) (mb : MS) : MS := mWLoop mt mb n
noncomputable def lcLoop (g : MG) (mt : MT) (me : ME) (src : List (Nat × List MV)) (env : Env) : List MV → MH → Option (List MV × MH)
  | [], h => srcIf src h (some ([], h))
  | x :: xs, h => srcIf src h ((g x env).bind fun env' => (mt env' h).bind fun b => if b.1 = true then (me env' b.2).bind fun r => (lcLoop g mt me src env xs r.2).map fun q => (r.1 :: q.1, q.2) else lcLoop g mt me src env xs b.2)
noncomputable def mLc (mi : MI) (g : MG) (mt : MT) (me : ME) (vs : List Nat) : MA := fun env h => (mi env h).bind fun s => (lcLoop g mt me s.1.1 (wipeM env vs) s.1.2 s.2).bind fun r => if r.1.length ≤ 100000 then some r else none
section
variable {K : PySem.W.Frag} {wi : TI} {mi : MI} {g : TG} {mg : MG} {tb : TS} {mb : MS} {te : TE} {me : ME} {tt : TT} {mt : MT} {js : List Nat}
theorem ss_for (hI : SimI K wi mi) (hg : SimG K g mg js) (hb : SimS K tb mb) : SimS K (tFor wi g tb) (mFor mi mg mb) := fun D w h σ env r rl re e p => by
  obtain ⟨⟨⟨src, items⟩, h1⟩, e1, e⟩ := bind_of e
  refine hI w h σ env _ h1 rl re e1 _ fun w1 J s1 r1 ok => ?_
  refine ⟨fun i m σ' H' => ∃ w' h' env', w'.H = H' ∧ Step w1 w' ∧ Rel K w' h' ∧ RepE K w' σ' env' ∧ i ≤ items.length ∧ m = items.length - i ∧ mLoop mg mb src (items.drop i) env' h' = some r,
    ⟨_, w1, h1, env, rfl, .refl _, r1, re.up s1, Nat.zero_le _, rfl, e⟩, ?_⟩
  rintro i m σ' H' ⟨w', h', env', rfl, s2, r2, re2, hi, rfl, el⟩
  by_cases hlt : i < items.length
  · rw [List.drop_eq_getElem_cons hlt, mLoop] at el
    obtain ⟨hs, el⟩ := srcIf_of el
    obtain ⟨env2, g1, el⟩ := bind_of el
    obtain ⟨q, g2, el⟩ := bind_of el
    obtain ⟨_, go⟩ := ok w' h' s2 r2 hs
    obtain ⟨go1, go2⟩ := go i items[i] (by simp [hlt])
    refine .inr ⟨go1, fun σ2 H2 => ∃ w' h' env', w'.H = H2 ∧ Step w1 w' ∧ Rel K w' h' ∧ RepE K w' σ2 env' ∧ mLoop mg mb src (items.drop (i + 1)) env' h' = some r, fun σ2 H2 n => ?_, fun u H2 y => ?_⟩
    · obtain ⟨w', h', env', a1, a2, a3, a4, a5⟩ := n
      exact ⟨_, by omega, w', h', env', a1, a2, a3, a4, hlt, rfl, a5⟩
    · obtain ⟨w3, rfl, s3, r3, x3⟩ := go2 u H2 y
      refine hg w3 h' σ' env' u items[i] env2 r3 (re2.up s3) x3 g1 _ fun σ3 re3 _ _ => ?_
      refine hb _ w3 h' σ3 env2 q r3 re3 g2 ?_
      cases q with
      | nx e2 hh => exact fun w4 σ4 s4 r4 re4 => ⟨w4, hh, e2, rfl, (s2.trans s3).trans s4, r4, re4, el⟩
      | ct e2 hh => exact fun w4 σ4 s4 r4 re4 => ⟨w4, hh, e2, rfl, (s2.trans s3).trans s4, r4, re4, el⟩
      | bk e2 hh => cases el; exact fun w4 σ4 s4 r4 re4 => p w4 σ4 (((s1.trans s2).trans s3).trans s4) r4 re4
      | rt e2 hh => cases el; exact fun w4 σ4 s4 r4 re4 => p w4 σ4 (((s1.trans s2).trans s3).trans s4) r4 re4
  · have ei : i = items.length := by omega
    subst ei
    rw [List.drop_length, mLoop] at el
    obtain ⟨hs, el⟩ := srcIf_of el
    cases el
    exact .inl ⟨(ok w' h' s2 r2 hs).1, p w' σ' (s1.trans s2) r2 re2⟩
theorem ss_while {n : Nat} (ht : SimT K tt mt) (hb : SimS K tb mb) : SimS K (tWhile tt tb) (mWhile n mt mb) := fun D w h σ env r rl re e p => by
  refine ⟨fun m σ' H' => ∃ w' h' env', w'.H = H' ∧ Step w w' ∧ Rel K w' h' ∧ RepE K w' σ' env' ∧ mWLoop mt mb m env' h' = some r, ⟨n, w, h, env, rfl, .refl _, rl, re, e⟩, ?_⟩
  rintro m σ' H' ⟨w', h', env', rfl, s2, r2, re2, el⟩
  cases m with
  | zero => cases el
  | succ m =>
    rw [mWLoop] at el
    obtain ⟨⟨c, h2⟩, e1, el⟩ := bind_of el
    refine ht w' h' σ' env' c h2 r2 re2 e1 _ fun w3 s3 r3 => ?_
    cases c with
    | false => cases el; exact iteF (p w3 σ' (s2.trans s3) r3 (re2.up s3))
    | true =>
      refine iteT ⟨fun σ2 H2 => ∃ w' h' env', w'.H = H2 ∧ Step w w' ∧ Rel K w' h' ∧ RepE K w' σ2 env' ∧ mWLoop mt mb m env' h' = some r, fun σ2 H2 nn => ⟨m, by omega, nn⟩, ?_⟩
      replace el : (mb env' h2).bind _ = some r := el
      obtain ⟨q, g2, el⟩ := bind_of el
      refine hb _ w3 h2 σ' env' q r3 (re2.up s3) g2 ?_
      cases q with
      | nx e2 hh => exact fun w4 σ4 s4 r4 re4 => ⟨w4, hh, e2, rfl, (s2.trans s3).trans s4, r4, re4, el⟩
      | ct e2 hh => exact fun w4 σ4 s4 r4 re4 => ⟨w4, hh, e2, rfl, (s2.trans s3).trans s4, r4, re4, el⟩
      | bk e2 hh => cases el; exact fun w4 σ4 s4 r4 re4 => p w4 σ4 ((s2.trans s3).trans s4) r4 re4
      | rt e2 hh => cases el; exact fun w4 σ4 s4 r4 re4 => p w4 σ4 ((s2.trans s3).trans s4) r4 re4
/-- a thing that nobody knows of is changed -/
theorem garb {s w : Wd} {h : MH} {p : Addr} {o : HO} (st : Step s w) (r : Rel K w h) (hs : s.H p = none) (hi : p ∉ w.ι) (hc : w.C p = none) : Step s ⟨w.ι, w.C, upd w.H p o⟩ ∧ Rel K ⟨w.ι, w.C, upd w.H p o⟩ h := by
  refine ⟨⟨st.pre, st.ex, fun a u e n => ?_, st.nw, st.nc, fun a e => ?_⟩, ⟨fun a u e => ?_, r.len, r.nd, r.ow, fun n a b e1 e2 => ?_⟩⟩
  · show upd w.H p o a = _
    rw [upd_ne (fun z => by rw [z, hs] at e; cases e)]; exact st.fr a u e n
  · show upd w.H p o a ≠ none
    rw [upd_ne (fun z => e (by rw [z]; exact hs))]; exact st.kp a e
  · replace e : w.C a = some u := e
    show upd w.H p o a = _
    rw [upd_ne (fun z => by rw [z, hc] at e; cases e)]; exact r.ch a u e
  · obtain ⟨u, g1, g2⟩ := r.ob n a b e1 e2
    refine ⟨u, ?_, g2⟩
    show upd w.H p o a = _
    rw [upd_ne (fun z => hi (by rw [← z]; exact List.mem_of_getElem? e1))]; exact g1
theorem sm_lc {vs : List Nat} (hI : SimI K wi mi) (hg : SimG K g mg vs) (ht : SimT K tt mt) (he : SimE K te me) : SimF K (tLc wi g tt te vs) (mLc mi mg mt me vs) := fun w h σ env xs hE rl re e Q q => by
  obtain ⟨⟨⟨src, items⟩, h1⟩, e1, e⟩ := bind_of e
  obtain ⟨⟨ys, hE'⟩, e2, e⟩ := bind_of e
  simp only at e
  split at e
  · rename_i hz
    cases e
    refine hI w h σ env _ h1 rl re e1 _ fun w1 J s1 r1 ok D hD => ?_
    have hD0 : w.H D = none := by
      cases z : w.H D with
      | none => rfl
      | some o => exact absurd hD (s1.kp D (by rw [z]; exact fun q => nomatch q))
    refine ⟨fun i m H' => ∃ w' h' acc accM rest, w'.H = H' ∧ H' D = some (.lst acc) ∧ D ∉ w'.ι ∧ w'.C D = none ∧ Step w1 w' ∧ Rel K w' h' ∧ RepA K w'.ι w'.C acc accM ∧ accM ++ rest = xs ∧ i ≤ items.length ∧ m = items.length - i ∧
      lcLoop mg mt me src (wipeM env vs) (items.drop i) h' = some (rest, hE), ?_, ?_⟩
    · obtain ⟨s2, r2⟩ := garb (o := .lst []) (Step.refl w1) r1 hD (r1.notin hD) (r1.cnone hD)
      exact ⟨_, ⟨w1.ι, w1.C, upd w1.H D (.lst [])⟩, h1, [], [], _, rfl, upd_same, r1.notin hD, r1.cnone hD, s2, r2, .nil, rfl, Nat.zero_le _, rfl, e2⟩
    · rintro i m H' ⟨w', h', acc, accM, rest, rfl, hA, hi, hc, s2, r2, ra, er, hl, rfl, el⟩
      by_cases hlt : i < items.length
      · rw [List.drop_eq_getElem_cons hlt, lcLoop] at el
        obtain ⟨hs, el⟩ := srcIf_of el
        obtain ⟨env2, g1, el⟩ := bind_of el
        obtain ⟨⟨b, h2⟩, g2, el⟩ := bind_of el
        obtain ⟨_, go⟩ := ok w' h' s2 r2 hs
        obtain ⟨go1, go2⟩ := go i items[i] (by simp [hlt])
        refine .inr ⟨go1, fun H2 => ∃ w' h' acc accM rest, w'.H = H2 ∧ H2 D = some (.lst acc) ∧ D ∉ w'.ι ∧ w'.C D = none ∧ Step w1 w' ∧ Rel K w' h' ∧ RepA K w'.ι w'.C acc accM ∧ accM ++ rest = xs ∧ lcLoop mg mt me src (wipeM env vs) (items.drop (i + 1)) h' = some (rest, hE), fun H2 n => ?_, fun u H2 y => ?_⟩
        · obtain ⟨w', h', acc, accM, rest, a1, a2, a3, a4, a5, a6, a7, a8, a9⟩ := n
          exact ⟨_, by omega, w', h', acc, accM, rest, a1, a2, a3, a4, a5, a6, a7, a8, hlt, rfl, a9⟩
        · obtain ⟨w3, rfl, s3, r3, x3⟩ := go2 u H2 y
          have stay : ∀ {wa wb : Wd}, Step wa wb → wa.H D = some (.lst acc) → D ∉ wa.ι → wa.C D = none → wb.H D = some (.lst acc) ∧ D ∉ wb.ι ∧ wb.C D = none := fun {wa wb} s a b c => by
            refine ⟨s.fr D _ a b, fun m => ?_, s.nc D (by rw [a]; exact fun q => nomatch q) c⟩
            rcases s.nw D m with z | z
            · exact b z
            · rw [a] at z; cases z
          obtain ⟨d1, d2, d3⟩ := stay s3 hA hi hc
          have rw0 : RepE K w3 (wipe σ vs) (wipeM env vs) := (((re.up s1).up s2).up s3).wipe vs
          refine hg w3 h' _ _ u items[i] env2 r3 rw0 x3 g1 _ fun σ3 re3 l3 k3 => ⟨?_, ?_⟩
          · rw [show wipe σ3 vs = wipe (wipe σ vs) vs from wipe_eq l3 k3, wipe_wipe]
          · refine ht w3 h' σ3 env2 b h2 r3 re3 g2 _ fun w4 s4 r4 => ?_
            obtain ⟨d4, d5, d6⟩ := stay s4 d1 d2 d3
            cases b with
            | true =>
              replace el : (me env2 h2).bind (fun r => (lcLoop mg mt me src (wipeM env vs) (items.drop (i + 1)) r.2).map fun q => (r.1 :: q.1, q.2)) = some (rest, hE) := el
              obtain ⟨⟨v, h3⟩, g3, el⟩ := bind_of el
              obtain ⟨⟨rest', hx⟩, g4, el⟩ := map_of el
              cases el
              refine iteT (he w4 h2 σ3 env2 v h3 r4 (re3.up s4) g3 _ fun w5 uu s5 r5 x5 => ?_)
              obtain ⟨d7, d8, d9⟩ := stay s5 d4 d5 d6
              have ss := ((s2.trans s3).trans s4).trans s5
              have ra5 := ((ra.up s3).up s4).up s5
              obtain ⟨s6, r6⟩ := garb (o := .lst (acc ++ [uu])) ss r5 hD d8 d9
              refine ⟨acc, d7, ?_, ⟨w5.ι, w5.C, upd w5.H D (.lst (acc ++ [uu]))⟩, h3, acc ++ [uu], accM ++ [v], rest', rfl, upd_same, d8, d9, s6, r6, ra5.app (.cons x5 .nil), ?_, g4⟩
              · rw [ra.len]
                refine Nat.lt_of_lt_of_le (?_ : accM.length < 100000) sl_100000
                have hz' : xs.length ≤ 100000 := hz
                rw [← er] at hz'
                simp at hz'
                omega
              · rw [← er]; simp
            | false =>
              exact iteF ⟨w4, h2, acc, accM, rest, rfl, d4, d5, d6, (s2.trans s3).trans s4, r4, (ra.up s3).up s4, er, el⟩
      · have ei : i = items.length := by omega
        subst ei
        rw [List.drop_length, lcLoop] at el
        obtain ⟨hs, el⟩ := srcIf_of el
        cases el
        rw [List.append_nil] at er
        subst er
        exact .inl ⟨(ok w' _ s2 r2 hs).1, q w' D acc (s1.trans s2) r2 hD0 hA hi hc ra⟩
  · cases e
end
end M
namespace M
open PySem PySem.Spec PyProof.Rows L2
open Evl (Ex ex_rd ex_l ex_t rMax2)
open G (dpx dpax dpa_len dpa_get dpa_app dpa_set ex_none wipe_get wipe_eq wipe_wipe RD UD CD Ret)
/-! ### from data to data -/
mutual
def noL : PyData → Bool
  | .list _ => false
  | .dict _ => false
  | .tuple xs => noLA xs
  | _ => true
def noLA : List PyData → Bool
  | [] => true
  | x :: xs => noL x && noLA xs
end
section
variable {K : PySem.W.Frag} {w : Wd} {h : MH}
mutual
theorem dp_sub {C C' : Hp} (e : ∀ a xs, Rd C a (.tup xs) → Rd C' a (.tup xs)) : ∀ {v : V} {p : PyData}, noL p = true → Dp K C v p → Dp K C' v p
  | _, _, _, .non => .non
  | _, _, _, .bl b => .bl b
  | _, _, _, .int i => .int i
  | _, _, _, .str x => .str x
  | _, _, n, .lst h a => by rw [noL] at n; cases n
  | _, _, n, .tup h a => .tup (h.elim (fun q => .inl (e _ _ q)) .inr) (dpa_sub e (by rw [noL] at n; exact n) a)
theorem dpa_sub {C C' : Hp} (e : ∀ a xs, Rd C a (.tup xs) → Rd C' a (.tup xs)) : ∀ {vs : List V} {ps : List PyData}, noLA ps = true → DpAll K C vs ps → DpAll K C' vs ps
  | _, _, _, .nil => .nil
  | _, _, n, .cons h t => by
    rw [noLA, Bool.and_eq_true] at n
    exact .cons (dp_sub e n.1 h) (dpa_sub e n.2 t)
end
/-- behind a computation that saw only data -/
theorem step_C {C' H' : Hp} (r : Rel K w h) (e1 : Ex w.C C') (e2 : Ex C' H') (e3 : Ex w.H H') (fr : ∀ a, w.H a ≠ none → w.C a = none → C' a = none) : Step w ⟨w.ι, C', H'⟩ ∧ Rel K ⟨w.ι, C', H'⟩ h := by
  have hown : ∀ a ∈ w.ι, w.H a ≠ none := fun a m => by
    obtain ⟨n, hn, e⟩ := List.getElem_of_mem m
    obtain ⟨o, q, _⟩ := r.ob n a (h[n]'(by rw [← r.len]; exact hn)) (by rw [← e]; simp) (by simp)
    rw [q]; exact fun z => nomatch z
  refine ⟨⟨List.prefix_refl _, e1, fun a o q _ => e3 a o q, fun a m => .inl m, fr, fun a q => ?_⟩, ⟨e2, r.len, r.nd, fun a m => fr a (hown a m) (r.ow a m), fun n a b q1 q2 => ?_⟩⟩
  · cases z : w.H a with
    | none => exact absurd z q
    | some o =>
      show H' a ≠ none
      rw [e3 a o z]; exact fun q => nomatch q
  · obtain ⟨o, g1, g2⟩ := r.ob n a b q1 q2
    exact ⟨o, e3 a o g1, g2.mono (List.prefix_refl _) e1⟩
/-- behind a computation that saw all that is to be seen -/
theorem step_vis {C' H' : Hp} (r : Rel K w h) (e1 : Ex (vis w) C') (e2 : Ex C' H') (e3 : Ex w.H H') (fr : ∀ a, w.H a ≠ none → vis w a = none → C' a = none) :
    ∃ Cn : Hp, Step w ⟨w.ι, Cn, H'⟩ ∧ Rel K ⟨w.ι, Cn, H'⟩ h ∧ Ex Cn C' ∧ ∀ a xs, Rd C' a (.tup xs) → Rd Cn a (.tup xs) := by
  have f1 : ∀ a, w.H a ≠ none → w.C a = none → (fun a => if a ∈ w.ι then none else C' a) a = none := fun a q c => by
    show (if a ∈ w.ι then none else C' a) = none
    by_cases z : a ∈ w.ι
    · rw [if_pos z]
    · rw [if_neg z]
      refine fr a q ?_
      unfold vis
      rw [if_neg]
      exact fun y => y.elim (fun y => y c) z
  have f2 : Ex w.C (fun a => if a ∈ w.ι then none else C' a) := fun a o q => by
    show (if a ∈ w.ι then none else C' a) = some o
    rw [if_neg (fun z => by rw [r.ow a z] at q; cases q)]
    exact e1 a o (vis_C r a o q)
  have f3 : Ex (fun a => if a ∈ w.ι then none else C' a) C' := fun a o q => by
    replace q : (if a ∈ w.ι then none else C' a) = some o := q
    by_cases z : a ∈ w.ι
    · rw [if_pos z] at q; cases q
    · rw [if_neg z] at q; exact q
  obtain ⟨s, r'⟩ := step_C r f2 (f3.trans e2) e3 f1
  refine ⟨_, s, r', f3, fun a xs q => ?_⟩
  have ne : a ∉ w.ι := fun m => by
    obtain ⟨n, hn, e⟩ := List.getElem_of_mem m
    obtain ⟨o, q1, q2⟩ := r.ob n a (h[n]'(by rw [← r.len]; exact hn)) (by rw [← e]; simp) (by simp)
    have := e1 a o (by rw [vis_own r m]; exact q1)
    rcases q with q | ⟨o', q⟩
    · rw [this] at q; cases q; cases q2
    · rw [this] at q; cases q; cases q2
  have e : (fun a => if a ∈ w.ι then none else C' a) a = C' a := if_neg ne
  rcases q with q | ⟨o', q⟩
  · exact .inl (e.trans q)
  · exact .inr ⟨o', e.trans q⟩
theorem ret_dat {H C H' : Hp} {u : V} {r : PyData} (t : Ret K H C (.dat r) u H') : ∃ C', Ex C C' ∧ Ex C' H' ∧ Ex H H' ∧ (∀ a, H a ≠ none → C a = none → C' a = none) ∧ Dp K C' u r := by
  obtain ⟨C', ps, a1, a2, a3, a4, a5, _⟩ := t
  cases a5 with
  | dat d _ => exact ⟨C', a1, a2, a3, a4, d⟩
theorem ret_own {H C H' : Hp} {u : V} {ds : List PyData} {z : Option Addr} (t : Ret K H C (.ownq z ds) u H') : ∃ C' p vs, u = .ref p ∧ H' p = some (.lst vs) ∧ DpAll K C' vs ds ∧ C' p = none ∧ H p = none ∧ Ex C C' ∧ Ex C' H' ∧ Ex H H' ∧ (∀ a, H a ≠ none → C a = none → C' a = none) := by
  obtain ⟨C', ps, a1, a2, a3, a4, a5, a6⟩ := t
  cases a5 with
  | own y q d t =>
    cases t
    obtain ⟨b1, b2⟩ := a6 _ List.mem_cons_self
    exact ⟨C', _, _, rfl, q, d, b1, b2, a1, a2, a3, a4⟩
def liftD (f : List PyData → Option PyData) : MCa := fun xs h => match allD xs with
  | some ds => (f ds).map fun r => (.d r, h)
  | none => (mapO (reify 6 h) xs).bind fun ds => (f ds).bind fun r => if noL r = true then some (.d r, h) else none
theorem liftD_d (f : List PyData → Option PyData) (ds : List PyData) (h : MH) : liftD f (ds.map .d) h = (f ds).map fun r => (.d r, h) := by unfold liftD; rw [allD_map]
theorem lift_ok {op : List V → Hp → VK → Prop} {f : List PyData → Option PyData} (hf : ∀ C H vs ds r, Ex C H → DpAll K C vs ds → f ds = some r → ∀ Q : VK, (∀ v H', Ret K H C (.dat r) v H' → Q v H') → op vs H Q) : SimC K op (liftD f) := fun w h us xs v h' rl ra e Q q => by
  unfold liftD at e
  split at e
  · rename_i ds ed
    obtain ⟨r, e1, e⟩ := map_of e
    cases e
    rw [allD_eq ed] at ra
    refine hf w.C w.H us ds r rl.ch ra.toD e1 Q fun u H' t => ?_
    obtain ⟨C', a1, a2, a3, a4, a5⟩ := ret_dat t
    obtain ⟨s, r'⟩ := step_C rl a1 a2 a3 a4
    exact q ⟨w.ι, C', H'⟩ u s r' (.d a5)
  · obtain ⟨ds, e1, e⟩ := bind_of e
    obtain ⟨r, e2, e⟩ := bind_of e
    split at e
    · rename_i hn
      cases e
      refine hf (vis w) w.H us ds r vis_ex (reifyA_ok rl 6 ra e1) e2 Q fun u H' t => ?_
      obtain ⟨C', a1, a2, a3, a4, a5⟩ := ret_dat t
      obtain ⟨Cn, s, r', _, k⟩ := step_vis rl a1 a2 a3 a4
      exact q ⟨w.ι, Cn, H'⟩ u s r' (.d (dp_sub k hn a5))
    · cases e
def liftF (f : List PyData → Option (List PyData)) : List MV → MH → Option (List MV × MH) := fun xs h => match allD xs with
  | some ds => (f ds).map fun r => (r.map .d, h)
  | none => (mapO (reify 6 h) xs).bind fun ds => (f ds).bind fun r => if noLA r = true then some (r.map .d, h) else none
theorem liftF_d (f : List PyData → Option (List PyData)) (ds : List PyData) (h : MH) : liftF f (ds.map .d) h = (f ds).map fun r => (r.map .d, h) := by unfold liftF; rw [allD_map]
theorem liftF_ok {op : List V → Hp → VK → Prop} {f : List PyData → Option (List PyData)} (hf : ∀ C H vs ds r, Ex C H → DpAll K C vs ds → f ds = some r → ∀ Q : VK, (∀ v H', Ret K H C (.own r) v H' → Q v H') → op vs H Q) : SimCF K op (liftF f) := fun w h us xs v h' rl ra e Q q => by
  unfold liftF at e
  split at e
  · rename_i ds ed
    obtain ⟨r, e1, e⟩ := map_of e
    cases e
    rw [allD_eq ed] at ra
    refine hf w.C w.H us ds r rl.ch ra.toD e1 Q fun u H' t => ?_
    obtain ⟨C', p, vs, rfl, b1, b2, b3, b4, a1, a2, a3, a4⟩ := ret_own t
    obtain ⟨s, r'⟩ := step_C rl a1 a2 a3 a4
    exact q ⟨w.ι, C', H'⟩ p vs s r' b4 b1 (rl.notin b4) b3 (RepA.ofD b2)
  · obtain ⟨ds, e1, e⟩ := bind_of e
    obtain ⟨r, e2, e⟩ := bind_of e
    split at e
    · rename_i hn
      cases e
      refine hf (vis w) w.H us ds r vis_ex (reifyA_ok rl 6 ra e1) e2 Q fun u H' t => ?_
      obtain ⟨C', p, vs, rfl, b1, b2, b3, b4, a1, a2, a3, a4⟩ := ret_own t
      obtain ⟨Cn, s, r', k0, k⟩ := step_vis rl a1 a2 a3 a4
      exact q ⟨w.ι, Cn, H'⟩ p vs s r' b4 b1 (rl.notin b4) (ex_none k0 b3) (RepA.ofD (dpa_sub k hn b2))
    · cases e
end
/-! ### defs -/
def spQ (K : PySem.W.Frag) (f : List PyData → Option PyData) : Sp := fun vs H Q _ => ∃ C ds r, Ex C H ∧ DpAll K C vs ds ∧ f ds = some r ∧ ∀ v H', Ret K H C (.dat r) v H' → Q v H'
def spH (K : PySem.W.Frag) (f : MCa) : Sp := fun vs H Q _ => ∃ w h xs v h', w.H = H ∧ Rel K w h ∧ RepA K w.ι w.C vs xs ∧ f xs h = some (v, h') ∧ ∀ w' u, Step w w' → Rel K w' h' → Rep K w'.ι w'.C u v → Q u w'.H
theorem sm_callQ {K : PySem.W.Frag} {f : List PyData → Option PyData} {E : XK} {ta : TA} {ma : MA} (ha : SimA K ta ma) : SimE K (tCall (spQ K f) [] E ta) (mCB (liftD f) ma) := by
  have : SimC K (fun vs H Q => spQ K f (vs ++ []) H Q E) (liftD f) := lift_ok fun C H vs ds r e d hf Q q => by
    show spQ K f (vs ++ []) H Q E
    rw [List.append_nil]
    exact ⟨C, ds, r, e, d, hf, q⟩
  exact sm_cb ha this
theorem sm_callH {K : PySem.W.Frag} {f : MCa} {E : XK} {ta : TA} {ma : MA} (ha : SimA K ta ma) : SimE K (tCall (spH K f) [] E ta) (mCB f ma) := by
  have : SimC K (fun vs H Q => spH K f (vs ++ []) H Q E) f := fun w h us xs v h' rl ra e Q q => by
    show spH K f (us ++ []) w.H Q E
    rw [List.append_nil]
    exact ⟨w, h, xs, v, h', rfl, rl, ra, e, q⟩
  exact sm_cb ha this
def resM : MRes → Option (MV × MH)
  | .rt v h => some (v, h)
  | .nx _ h => some (.d .none, h)
  | _ => none
def toHeap (np N : Nat) (ms : MS) : MCa := fun xs h => if xs.length = np then (ms (xs.map some ++ List.replicate (N - np) none) h).bind resM else none
def toPure (np N : Nat) (ms : MS) : List PyData → Option PyData := fun ds => (toHeap np N ms (ds.map .d) []).bind fun r => reify 6 r.2 r.1
section
variable {P : Program} {w : World} {K : PySem.W.Frag} {mg : Str → Option Value} {base : Heap} {x qual : Str} {st : Stmt} {f : Addr} {fd : FuncData} {N ps : List Str} {k : Nat} {tr : TS} {ms : MS} {np nN : Nat}
theorem repE_start {wd : Wd} : ∀ {vs : List V} {xs : List MV} (n : Nat), RepA K wd.ι wd.C vs xs → RepE K wd (vs.map some ++ List.replicate n none) (xs.map some ++ List.replicate n none) := by
  intro vs xs n ra
  have hl := ra.len
  refine ⟨by simp [hl], fun i y e => ?_⟩
  by_cases hi : i < xs.length
  · rw [List.getElem?_append_left (by simpa using hi), List.getElem?_map] at e
    obtain ⟨z, e1, e2⟩ := Option.map_eq_some_iff.mp e
    cases e2
    obtain ⟨v, g1, g2⟩ := ra.get e1
    refine ⟨v, ?_, g2⟩
    rw [List.getElem?_append_left (by simpa [hl] using hi), List.getElem?_map, g1]; rfl
  · rw [List.getElem?_append_right (by simpa using hi)] at e
    rw [List.getElem?_replicate] at e
    split at e <;> cases e
theorem run_ok (hs : SimS K tr ms) {wd : Wd} {h h' : MH} {vs : List V} {xs : List MV} {v : MV} {Q : VK} (rl : Rel K wd h) (ra : RepA K wd.ι wd.C vs xs) (e : toHeap np nN ms xs h = some (v, h')) (hN : N.length = nN)
    (q : ∀ w' u, Step wd w' → Rel K w' h' → Rep K w'.ι w'.C u v → Q u w'.H) : tr { nx := fun _ H' => Q .non H', rt := Q } (L2.start N vs) wd.H := by
  unfold toHeap at e
  split at e
  · rename_i hl
    obtain ⟨r, e1, e⟩ := bind_of e
    have re := repE_start (nN - np) ra
    have es : L2.start N vs = vs.map some ++ List.replicate (nN - np) none := by
      unfold L2.start
      rw [hN, ra.len, hl]
    rw [es]
    refine hs _ wd h _ _ r rl re e1 ?_
    cases r with
    | rt v' h2 => cases e; exact fun w' u s r x => q w' u s r x
    | nx v' h2 => cases e; exact fun w' σ' s r x => q w' .non s r (.d .non)
    | bk v' h2 => cases e
    | ct v' h2 => cases e
  · cases e
theorem toHeap_len {xs : List MV} {h : MH} {r : MV × MH} (e : toHeap np nN ms xs h = some r) : xs.length = np := by
  unfold toHeap at e
  split at e
  · assumption
  · cases e
theorem fn_okH (F : Fun K x qual st f fd) (S : FnScope N ps (defScope st)) (hnp : ps.length = np) (hN : N.length = nN)
    (pst : ∀ (cdv : Value) (A : Around) (outer : List PySem.Env) (s : Shared) (H : Hp) (E : XK), Room k (A.deeper (envOfC qual (defScope st) s.heap.objs.size f cdv)) → PSs (cxOf CX0 P w K mg base N qual (defScope st) f cdv A outer s H E).nox (defBody st) tr)
    (hs : SimS K tr ms) : FnOk P w K mg base CX0 (k + 1) f fd ps (spH K (toHeap np nN ms)) := by
  refine F.ok S (fun vs H Q E h => ?_) (fun cdv A outer s H vs Q E hr h => ⟨_, pst cdv A outer s H E hr, ?_⟩)
  · obtain ⟨wd, h, xs, v, h', _, _, ra, e, _⟩ := h
    rw [ra.len, toHeap_len e, hnp]
  · obtain ⟨wd, h, xs, v, h', rfl, rl, ra, e, q⟩ := h
    exact run_ok hs rl ra e hN q
theorem rel_nil {C H : Hp} (e : Ex C H) : Rel K ⟨[], C, H⟩ [] := ⟨e, rfl, List.nodup_nil, (fun a m => by cases m), (fun n a b q => by simp at q)⟩
theorem fn_okQ (F : Fun K x qual st f fd) (S : FnScope N ps (defScope st)) (hnp : ps.length = np) (hN : N.length = nN)
    (pst : ∀ (cdv : Value) (A : Around) (outer : List PySem.Env) (s : Shared) (H : Hp) (E : XK), Room k (A.deeper (envOfC qual (defScope st) s.heap.objs.size f cdv)) → PSs (cxOf CX0 P w K mg base N qual (defScope st) f cdv A outer s H E).nox (defBody st) tr)
    (hs : SimS K tr ms) : FnOk P w K mg base CX0 (k + 1) f fd ps (spQ K (toPure np nN ms)) := by
  refine F.ok S (fun vs H Q E h => ?_) (fun cdv A outer s H vs Q E hr h => ⟨_, pst cdv A outer s H E hr, ?_⟩)
  · obtain ⟨C, ds, r, _, dv, e, _⟩ := h
    obtain ⟨q, e1, e2⟩ := bind_of e
    have := toHeap_len e1
    rw [List.length_map] at this
    rw [dpa_len dv, this, hnp]
  · obtain ⟨C, ds, r, ex, dv, e, q⟩ := h
    obtain ⟨⟨v, h'⟩, e1, e2⟩ := bind_of e
    refine run_ok (wd := ⟨[], C, H⟩) hs (rel_nil ex) (RepA.ofD dv) e1 hN fun w' u s rl x => ?_
    have hd := reify_ok rl 6 x e2
    have frv : ∀ a, H a ≠ none → C a = none → vis w' a = none := fun a n c => by
      unfold vis
      rw [if_neg]
      rintro (z | z)
      · exact z (s.nc a n c)
      · rcases s.nw a z with m | m
        · cases m
        · exact n m
    exact q u w'.H ⟨vis w', [], s.ex.trans (vis_C rl), vis_ex, fun a o e => s.fr a o e (fun m => by cases m), frv, .dat hd .nil, fun p m => by cases m⟩
end
end M
namespace L2
open PySem PySem.Spec PyProof.Rows
section
variable {X : Cx}
/-! ### the order of data -/
def rCmpD (K : PySem.W.Frag) (f : PyData → PyData → Bool) : R2 := fun x y H Q => ∃ d e, Dp K H x d ∧ Dp K H y e ∧ PySem.W.alike d e = true ∧ d ≠ .none ∧ min d.depth e.depth ≤ 60 ∧ Q (.bl (f d e)) H
def fLt (d e : PyData) : Bool := PySem.W.dataLt d e
def fGt (d e : PyData) : Bool := PySem.W.dataLt e d
def fLe (d e : PyData) : Bool := !PySem.W.dataLt e d
def fGe (d e : PyData) : Bool := !PySem.W.dataLt d e
theorem op_ltDa (hu : X.A.units + 64 < cLine) : OpR X (compareOp .Lt) (rCmpD X.K fLt) := fun pins s σ H x y v u Q I rx ry ⟨d, e, hd, he, ha, hn, hz, q⟩ => by
  obtain ⟨as, r1⟩ := Dp.reads I d x v hd rx
  obtain ⟨bs, r2⟩ := Dp.reads I e y u he ry
  exact PySem.W.lt_data r1 r2 ha hn (by omega) ⟨.bl _, H, I, rfl, q⟩
theorem op_gtDa (hu : X.A.units + 64 < cLine) : OpR X (compareOp .Gt) (rCmpD X.K fGt) := fun pins s σ H x y v u Q I rx ry ⟨d, e, hd, he, ha, hn, hz, q⟩ => by
  obtain ⟨as, r1⟩ := Dp.reads I d x v hd rx
  obtain ⟨bs, r2⟩ := Dp.reads I e y u he ry
  exact PySem.W.gt_data r1 r2 ha hn (by omega) ⟨.bl _, H, I, rfl, q⟩
theorem op_leDa (hu : X.A.units + 64 < cLine) : OpR X (compareOp .LtE) (rCmpD X.K fLe) := fun pins s σ H x y v u Q I rx ry ⟨d, e, hd, he, ha, hn, hz, q⟩ => by
  obtain ⟨as, r1⟩ := Dp.reads I d x v hd rx
  obtain ⟨bs, r2⟩ := Dp.reads I e y u he ry
  exact PySem.W.le_data r1 r2 ha hn (by omega) ⟨.bl _, H, I, rfl, q⟩
theorem op_geDa (hu : X.A.units + 64 < cLine) : OpR X (compareOp .GtE) (rCmpD X.K fGe) := fun pins s σ H x y v u Q I rx ry ⟨d, e, hd, he, ha, hn, hz, q⟩ => by
  obtain ⟨as, r1⟩ := Dp.reads I d x v hd rx
  obtain ⟨bs, r2⟩ := Dp.reads I e y u he ry
  exact PySem.W.ge_data r1 r2 ha hn (by omega) ⟨.bl _, H, I, rfl, q⟩
theorem hu65 {A : Around} {k : Nat} (hr : Room k A) : A.units + 65 < cLine := by have := hr.un; omega
/-- dict(d), a copy -/
def rDictCp : List V → Hp → VK → Prop := fun xs H Q => ∃ (a : Addr) (kvs : List (Key × V)), xs = [.ref a] ∧ Rd H a (.dK kvs) ∧ ∀ p, H p = none → Q (.ref p) (upd H p (.dK kvs))
theorem cr_dictCp : CallR X (.type "dict") rDictCp := by
  intro pins s σ H xs us Q I r q
  obtain ⟨a, kvs, ex, hd, q⟩ := q
  subst ex
  obtain ⟨u, eu, rx⟩ := vals1 r
  subst eu
  cases rx
  exact d_copyOf I hd fun p s' hp I' => ⟨.ref p, _, I', rfl, q p hp⟩
end
end L2
namespace M
open PySem PySem.Spec PyProof.Rows L2
open Evl (Ex ex_rd ex_l ex_t rMax2)
open G (dpx dpax dpa_len dpa_get dpa_app dpa_set ex_none wipe_get wipe_eq wipe_wipe RD UD CD Ret rMin2 rInt1 rAbs rTupOf rListOf)
section
variable {K : PySem.W.Frag} {w : Wd} {h : MH}
/-! ### numbers -/
def mI (g : Int → Int → Int) : MO2 := fun a b h => (asI a).bind fun i => (asI b).map fun j => (.d (.int (g i j)), h)
def mIB (g : Int → Int → Bool) : MO2 := fun a b h => (asI a).bind fun i => (asI b).map fun j => (.d (.bool (g i j)), h)
open Classical in
noncomputable def mIC (c : Int → Int → Prop) (g : Int → Int → Int) : MO2 := fun a b h => (asI a).bind fun i => (asI b).bind fun j => if c i j then some (.d (.int (g i j)), h) else none
theorem asI_rep {v : V} {x : MV} {i : Int} (r : Rep K w.ι w.C v x) (e : asI x = some i) : v = .int i := by
  rw [asI_of e] at r
  exact r.int
theorem sr_int {g : Int → Int → Int} : SimR K (rI0 fun i j => .int (g i j)) (mI g) := fun w h x y a b v h' rl rx ry e Q q => by
  obtain ⟨i, e1, e⟩ := bind_of e
  obtain ⟨j, e2, e⟩ := map_of e
  cases e
  exact ⟨i, j, asI_rep rx e1, asI_rep ry e2, q w _ (.refl _) rl (.d (.int _))⟩
theorem sr_bl {g : Int → Int → Bool} : SimR K (rI0 fun i j => .bl (g i j)) (mIB g) := fun w h x y a b v h' rl rx ry e Q q => by
  obtain ⟨i, e1, e⟩ := bind_of e
  obtain ⟨j, e2, e⟩ := map_of e
  cases e
  exact ⟨i, j, asI_rep rx e1, asI_rep ry e2, q w _ (.refl _) rl (.d (.bl _))⟩
theorem sr_intC {c : Int → Int → Prop} {g : Int → Int → Int} : SimR K (rI c fun i j => .int (g i j)) (mIC c g) := fun w h x y a b v h' rl rx ry e Q q => by
  obtain ⟨i, e1, e⟩ := bind_of e
  obtain ⟨j, e2, e⟩ := bind_of e
  split at e
  · rename_i hc
    cases e
    exact ⟨i, j, asI_rep rx e1, asI_rep ry e2, hc, q w _ (.refl _) rl (.d (.int _))⟩
  · cases e
def mNeg : MO1 := fun a h => (asI a).map fun i => (.d (.int (-i)), h)
theorem su_neg : SimU K (rU fun i => .int (-i)) mNeg := fun w h x a v h' rl rx e Q q => by
  obtain ⟨i, e1, e⟩ := map_of e
  cases e
  exact ⟨i, asI_rep rx e1, q w _ (.refl _) rl (.d (.int _))⟩
/-! ### what lies in a row -/
def itemsOf (h : MH) : MV → Option (List MV)
  | .d (.list ds) => some (ds.map .d)
  | .d (.tuple ds) => some (ds.map .d)
  | .tup xs => some xs
  | .ref n => (asL h (.ref n)).map (·.2)
  | _ => none
theorem items_ok (r : Rel K w h) {v : V} {x : MV} {xs : List MV} (rx : Rep K w.ι w.C v x) (e : itemsOf h x = some xs) : ∃ p vs, v = .ref p ∧ (SqL K w.H p vs ∨ SqT K w.H p vs) ∧ RepA K w.ι w.C vs xs := by
  cases x with
  | d p =>
    cases p with
    | list ds =>
      cases e
      cases rx with
      | d rx => cases rx with
        | lst hq ha => exact ⟨_, _, rfl, .inl (ex_l r.ch hq), RepA.ofD ha⟩
    | tuple ds =>
      cases e
      cases rx with
      | d rx => cases rx with
        | tup hq ha => exact ⟨_, _, rfl, .inr (ex_t r.ch hq), RepA.ofD ha⟩
    | none => cases e
    | bool _ => cases e
    | int _ => cases e
    | str _ => cases e
    | dict _ => cases e
  | tup ys =>
    cases e
    cases rx with
    | tup hq ha => exact ⟨_, _, rfl, .inr (ex_t r.ch (sqt hq)), ha⟩
  | ref n =>
    obtain ⟨⟨m, ys⟩, e1, e2⟩ := map_of e
    cases e2
    obtain ⟨eo, ex⟩ := asL_of e1
    cases eo
    obtain ⟨a, vs, h1, h2, h3, h4⟩ := r.lst rx ex
    exact ⟨a, vs, h1, .inl (.inl (.inl h3)), h4⟩
def isT : MV → Bool
  | .d (.tuple _) => true
  | .tup _ => true
  | _ => false
theorem items_T (r : Rel K w h) {v : V} {x : MV} {xs : List MV} (rx : Rep K w.ι w.C v x) (e : itemsOf h x = some xs) (t : isT x = true) : ∃ p vs, v = .ref p ∧ SqT K w.C p vs ∧ RepA K w.ι w.C vs xs := by
  cases x with
  | d p =>
    cases p with
    | tuple ds =>
      cases e
      cases rx with
      | d rx => cases rx with
        | tup hq ha => exact ⟨_, _, rfl, hq, RepA.ofD ha⟩
    | _ => cases t
  | tup ys =>
    cases e
    cases rx with
    | tup hq ha => exact ⟨_, _, rfl, sqt hq, ha⟩
  | ref n => cases t
theorem items_L (r : Rel K w h) {v : V} {x : MV} {xs : List MV} (rx : Rep K w.ι w.C v x) (e : itemsOf h x = some xs) (t : isT x = false) : ∃ p vs, v = .ref p ∧ SqL K w.H p vs ∧ RepA K w.ι w.C vs xs := by
  cases x with
  | d p =>
    cases p with
    | list ds =>
      cases e
      cases rx with
      | d rx => cases rx with
        | lst hq ha => exact ⟨_, _, rfl, ex_l r.ch hq, RepA.ofD ha⟩
    | tuple ds => cases t
    | none => cases e
    | bool _ => cases e
    | int _ => cases e
    | str _ => cases e
    | dict _ => cases e
  | tup ys => cases t
  | ref n =>
    obtain ⟨⟨m, ys⟩, e1, e2⟩ := map_of e
    cases e2
    obtain ⟨eo, ex⟩ := asL_of e1
    cases eo
    obtain ⟨a, vs, h1, h2, h3, h4⟩ := r.lst rx ex
    exact ⟨a, vs, h1, .inl (.inl h3), h4⟩
theorem atI_rep {ι : List Addr} {C : Hp} {vs : List V} {xs : List MV} {i : Int} {x : MV} (r : RepA K ι C vs xs) (a : atI xs i = some x) : ∃ v, atI vs i = some v ∧ Rep K ι C v x := by
  unfold atI at a ⊢
  rw [r.len]
  cases hx : ixN xs.length i with
  | none => rw [hx] at a; cases a
  | some j =>
    rw [hx] at a
    exact r.get a
def mIx : MO2 := fun a b h => (itemsOf h a).bind fun xs => (asI b).bind fun i => (atI xs i).map fun v => (v, h)
theorem sr_ix : SimR K (rIx K) mIx := fun w h x y a b v h' rl rx ry e Q q => by
  obtain ⟨xs, e1, e⟩ := bind_of e
  obtain ⟨i, e2, e⟩ := bind_of e
  obtain ⟨z, e3, e⟩ := map_of e
  cases e
  have hi := asI_rep ry e2
  subst hi
  obtain ⟨p, vs, rfl, hs, ra⟩ := items_ok rl rx e1
  obtain ⟨u, g1, g2⟩ := atI_rep ra e3
  rcases hs with hs | hs
  · exact .inl ⟨p, vs, i, u, rfl, rfl, hs, g1, q w u (.refl _) rl g2⟩
  · exact .inr (.inl ⟨p, vs, i, u, rfl, rfl, hs, g1, q w u (.refl _) rl g2⟩)
def arg1 : List MV → Option MV
  | [x] => some x
  | _ => none
theorem arg1_of {xs : List MV} {x : MV} (e : arg1 xs = some x) : xs = [x] := by
  unfold arg1 at e
  split at e
  · cases e; rfl
  · cases e
theorem RepA.one {ι : List Addr} {C : Hp} {us : List V} {x : MV} (r : RepA K ι C us [x]) : ∃ u, us = [u] ∧ Rep K ι C u x := by
  cases r with
  | cons r1 r2 => cases r2; exact ⟨_, rfl, r1⟩
def mLen : MCa := fun xs h => (arg1 xs).bind fun x => (itemsOf h x).map fun ys => (.d (.int ys.length), h)
theorem sc_len : SimC K (G.rLen K) mLen := fun w h us xs v h' rl ra e Q q => by
  obtain ⟨x, e1, e⟩ := bind_of e
  obtain ⟨ys, e2, e⟩ := map_of e
  cases e
  rw [arg1_of e1] at ra
  obtain ⟨u, rfl, rx⟩ := ra.one
  obtain ⟨p, vs, rfl, hs, rv⟩ := items_ok rl rx e2
  exact ⟨p, vs, rfl, hs, by rw [rv.len]; exact q w _ (.refl _) rl (.d (.int _))⟩
def mTupOf : MCa := fun xs h => (arg1 xs).bind fun x => (itemsOf h x).map fun ys => (if isT x = true then x else mkTup ys, h)
theorem sc_tup : SimC K (rTupOf K) mTupOf := fun w h us xs v h' rl ra e Q q => by
  obtain ⟨x, e1, e⟩ := bind_of e
  obtain ⟨ys, e2, e⟩ := map_of e
  cases e
  rw [arg1_of e1] at ra
  obtain ⟨u, rfl, rx⟩ := ra.one
  cases ht : isT x with
  | true =>
    obtain ⟨p, vs, rfl, hs, rv⟩ := items_T rl rx e2 ht
    exact ⟨p, vs, rfl, .inr ⟨ex_t rl.ch hs, q w _ (.refl _) rl (by rw [ht]; exact rx)⟩⟩
  | false =>
    obtain ⟨p, vs, rfl, hs, rv⟩ := items_L rl rx e2 ht
    refine ⟨p, vs, rfl, .inl ⟨hs, fun l hl => ?_⟩⟩
    obtain ⟨s2, r2⟩ := know_ok (o := .tup vs) rl hl
    exact q (w.know l (.tup vs)) _ s2 r2 (by rw [ht]; exact mkTup_rep upd_same (rv.up s2))
/-- what is made new -/
theorem fresh_ok (r : Rel K w h) {p : Addr} (hp : w.H p = none) {o : HO} : Step w ⟨w.ι, w.C, upd w.H p o⟩ ∧ Rel K ⟨w.ι, w.C, upd w.H p o⟩ h := garb (.refl w) r hp (r.notin hp) (r.cnone hp)
def mListOf : List MV → MH → Option (List MV × MH) := fun xs h => (arg1 xs).bind fun x => (itemsOf h x).map fun ys => (ys, h)
theorem sf_list : SimCF K (rListOf K) mListOf := fun w h us xs v h' rl ra e Q q => by
  obtain ⟨x, e1, e⟩ := bind_of e
  obtain ⟨ys, e2, e⟩ := map_of e
  cases e
  rw [arg1_of e1] at ra
  obtain ⟨u, rfl, rx⟩ := ra.one
  obtain ⟨p, vs, rfl, hs, rv⟩ := items_ok rl rx e2
  refine ⟨p, vs, rfl, hs, fun l hl => ?_⟩
  obtain ⟨s2, r2⟩ := fresh_ok (o := .lst vs) rl hl
  exact q _ l vs s2 r2 hl upd_same (rl.notin hl) (rl.cnone hl) rv
def mCatS (a b : MV) (h : MH) : Option (List MV × MH) := if isT a = false ∧ isT b = false then (itemsOf h a).bind fun xs => (itemsOf h b).bind fun ys => if xs.length + ys.length ≤ 100000 then some (xs ++ ys, h) else none else none
def mCatE (ma mb : ME) : MA := fun env h => (ma env h).bind fun r => (mb env r.2).bind fun s => mCatS r.1 s.1 s.2
theorem sm_catS {ta tb : TE} {ma mb : ME} (ha : SimE K ta ma) (hb : SimE K tb mb) : SimF K (tOp (G.rCatS K) ta tb) (mCatE ma mb) := fun w h σ env v h' rl re e Q q => by
  obtain ⟨⟨a, h1⟩, e1, e⟩ := bind_of e
  obtain ⟨⟨b, h2⟩, e2, e⟩ := bind_of e
  simp only [mCatS] at e
  split at e
  · rename_i hT
    obtain ⟨xs, e3, e⟩ := bind_of e
    obtain ⟨ys, e4, e⟩ := bind_of e
    split at e
    · rename_i hz
      cases e
      refine ha w h σ env a h1 rl re e1 _ fun w1 x s1 r1 x1 => hb w1 h1 σ env b _ r1 (re.up s1) e2 _ fun w2 y s2 r2 y2 => ?_
      obtain ⟨p, vs, rfl, hs, rv⟩ := items_L r2 (x1.up s2) e3 hT.1
      obtain ⟨p', vs', rfl, hs', rv'⟩ := items_L r2 y2 e4 hT.2
      refine ⟨p, p', vs, vs', rfl, rfl, hs, hs', by rw [rv.len, rv'.len]; exact hz, fun l hl => ?_⟩
      obtain ⟨s3, r3⟩ := fresh_ok (o := .lst (vs ++ vs')) r2 hl
      have ss := s1.trans s2
      exact q _ l _ (ss.trans s3) r3 (by
        cases z : w.H l with
        | none => rfl
        | some o => exact absurd hl (ss.kp l (by rw [z]; exact fun q => nomatch q))) upd_same (r2.notin hl) (r2.cnone hl) (rv.app rv')
    · cases e
  · cases e
def mRepF (mf : MA) (mb : ME) : MA := fun env h => (mf env h).bind fun r => (mb env r.2).bind fun s => (asI s.1).bind fun k => if -1000 ≤ k ∧ k ≤ 1000 ∧ r.1.length ≤ 100 then some ((List.replicate k.toNat r.1).flatten, s.2) else none
theorem RepA.flat {ι : List Addr} {C : Hp} {vs : List V} {xs : List MV} (r : RepA K ι C vs xs) : ∀ n : Nat, RepA K ι C (List.replicate n vs).flatten (List.replicate n xs).flatten
  | 0 => .nil
  | n + 1 => by
    rw [List.replicate_succ, List.replicate_succ, List.flatten_cons, List.flatten_cons]
    exact r.app (r.flat n)
theorem sm_rep {ta tb : TE} {mf : MA} {mb : ME} (ha : SimF K ta mf) (hb : SimE K tb mb) : SimF K (tOp rRep ta tb) (mRepF mf mb) := fun w h σ env v h' rl re e Q q => by
  obtain ⟨⟨xs, h1⟩, e1, e⟩ := bind_of e
  obtain ⟨⟨b, h2⟩, e2, e⟩ := bind_of e
  obtain ⟨k, e3, e⟩ := bind_of e
  simp only at e
  split at e
  · rename_i hk
    cases e
    refine ha w h σ env xs h1 rl re e1 _ fun w1 p vs s1 r1 f1 f2 f3 f4 f5 => hb w1 h1 σ env b _ r1 (re.up s1) e2 _ fun w2 y s2 r2 y2 => ?_
    have hy := asI_rep y2 e3
    subst hy
    have hp : w2.H p = some (.lst vs) := s2.fr p _ f2 f3
    refine ⟨p, k, vs, rfl, rfl, hp, by omega, by omega, ?_, fun l hl => ?_⟩
    · rw [f5.len]
      exact Nat.le_trans (Nat.mul_le_mul hk.2.2 (show k.toNat ≤ 1000 by omega)) sl_100000
    · obtain ⟨s3, r3⟩ := fresh_ok (o := .lst (List.replicate k.toNat vs).flatten) r2 hl
      have ss := s1.trans s2
      exact q _ l _ (ss.trans s3) r3 (by
        cases z : w.H l with
        | none => rfl
        | some o => exact absurd hl (ss.kp l (by rw [z]; exact fun q => nomatch q))) upd_same (r2.notin hl) (r2.cnone hl) ((f5.up s2).flat _)
  · cases e
/-! ### equal, less -/
def mEqD (neg : Bool) : MO2 := fun a b h => (reify 6 h a).bind fun d => (reify 6 h b).bind fun e => if SeqAt.shaped d = true ∧ SeqAt.shaped e = true then some (.d (.bool (if neg = true then !PyData.eqv d e else PyData.eqv d e)), h) else none
theorem sr_eq : SimR K (rEqD K) (mEqD false) := fun w h x y a b v h' rl rx ry e Q q => by
  obtain ⟨d, e1, e⟩ := bind_of e
  obtain ⟨d', e2, e⟩ := bind_of e
  split at e
  · rename_i hs
    cases e
    exact ⟨d, d', dpx vis_ex (reify_ok rl 6 rx e1), dpx vis_ex (reify_ok rl 6 ry e2), hs.1, hs.2, q w _ (.refl _) rl (.d (.bl _))⟩
  · cases e
theorem sr_ne : SimR K (rNeD K) (mEqD true) := fun w h x y a b v h' rl rx ry e Q q => by
  obtain ⟨d, e1, e⟩ := bind_of e
  obtain ⟨d', e2, e⟩ := bind_of e
  split at e
  · rename_i hs
    cases e
    exact ⟨d, d', dpx vis_ex (reify_ok rl 6 rx e1), dpx vis_ex (reify_ok rl 6 ry e2), hs.1, hs.2, q w _ (.refl _) rl (.d (.bl _))⟩
  · cases e
open Classical in
noncomputable def mCmp (f : PyData → PyData → Bool) : MO2 := fun a b h => (reify 6 h a).bind fun d => (reify 6 h b).bind fun e => if PySem.W.alike d e = true ∧ d ≠ .none ∧ min d.depth e.depth ≤ 60 then some (.d (.bool (f d e)), h) else none
theorem sr_cmp {f : PyData → PyData → Bool} : SimR K (rCmpD K f) (mCmp f) := fun w h x y a b v h' rl rx ry e Q q => by
  obtain ⟨d, e1, e⟩ := bind_of e
  obtain ⟨d', e2, e⟩ := bind_of e
  split at e
  · rename_i hs
    cases e
    exact ⟨d, d', dpx vis_ex (reify_ok rl 6 rx e1), dpx vis_ex (reify_ok rl 6 ry e2), hs.1, hs.2.1, hs.2.2, q w _ (.refl _) rl (.d (.bl _))⟩
  · cases e
def asDL (d : PyData) : Option (List PyData) := match d with
  | .list ds => some ds
  | _ => none
def mInD (neg : Bool) : MO2 := fun a b h => (reify 6 h a).bind fun d => (reify 6 h b).bind fun e => (asDL e).bind fun ds => if SeqAt.shaped d = true ∧ SeqAt.shaped e = true then some (.d (.bool (if neg = true then !(ds.any fun z => PyData.eqv z d) else ds.any fun z => PyData.eqv z d)), h) else none
theorem asDL_of {d : PyData} {ds : List PyData} (e : asDL d = some ds) : d = .list ds := by
  unfold asDL at e
  split at e
  · cases e; rfl
  · cases e
theorem sr_in : SimR K (rInD K) (mInD false) := fun w h x y a b v h' rl rx ry e Q q => by
  obtain ⟨d, e1, e⟩ := bind_of e
  obtain ⟨d', e2, e⟩ := bind_of e
  obtain ⟨ds, e3, e⟩ := bind_of e
  split at e
  · rename_i hs
    cases e
    cases asDL_of e3
    exact ⟨d, ds, dpx vis_ex (reify_ok rl 6 rx e1), dpx vis_ex (reify_ok rl 6 ry e2), hs.1, hs.2, q w _ (.refl _) rl (.d (.bl _))⟩
  · cases e
theorem sr_notIn : SimR K (rNotInD K) (mInD true) := fun w h x y a b v h' rl rx ry e Q q => by
  obtain ⟨d, e1, e⟩ := bind_of e
  obtain ⟨d', e2, e⟩ := bind_of e
  obtain ⟨ds, e3, e⟩ := bind_of e
  split at e
  · rename_i hs
    cases e
    cases asDL_of e3
    exact ⟨d, ds, dpx vis_ex (reify_ok rl 6 rx e1), dpx vis_ex (reify_ok rl 6 ry e2), hs.1, hs.2, q w _ (.refl _) rl (.d (.bl _))⟩
  · cases e
/-! ### built-in calls on data -/
def fInt1 : List PyData → Option PyData
  | [.int i] => some (.int i)
  | [.bool k] => some (.int (if k then 1 else 0))
  | _ => none
theorem sc_int1 : SimC K rInt1 (liftD fInt1) := lift_ok fun C H vs ds r ex dv e Q q => by
  unfold fInt1 at e
  split at e
  · cases e; exact G.cd_int C H vs ex dv Q q
  · cases e; exact G.cd_intB C H vs ex dv Q q
  · cases e
def fMax2 : List PyData → Option PyData
  | [.int i, .int j] => some (.int (max i j))
  | _ => none
theorem sc_max2 : SimC K rMax2 (liftD fMax2) := lift_ok fun C H vs ds r ex dv e Q q => by
  unfold fMax2 at e
  split at e
  · cases e; exact G.cd_max2 C H vs ex dv Q q
  · cases e
def fMin2 : List PyData → Option PyData
  | [.int i, .int j] => some (.int (min i j))
  | _ => none
theorem sc_min2 : SimC K rMin2 (liftD fMin2) := lift_ok fun C H vs ds r ex dv e Q q => by
  unfold fMin2 at e
  split at e
  · cases e; exact G.cd_min2 C H vs ex dv Q q
  · cases e
def fAbs : List PyData → Option PyData
  | [.int i] => some (.int (i.natAbs : Int))
  | _ => none
theorem sc_abs : SimC K rAbs (liftD fAbs) := lift_ok fun C H vs ds r ex dv e Q q => by
  unfold fAbs at e
  split at e
  · cases e; exact G.cd_abs C H vs ex dv Q q
  · cases e
def boolsOf : List PyData → Option (List Bool)
  | [] => some []
  | .bool b :: ds => (boolsOf ds).map (b :: ·)
  | _ => none
theorem bools_of : ∀ {ds : List PyData} {bs : List Bool}, boolsOf ds = some bs → ds = bs.map .bool
  | [], bs, e => by cases e; rfl
  | d :: ds, bs, e => by
    unfold boolsOf at e
    split at e
    · cases ‹_ :: _ = []›
    · rename_i b ds' eq
      cases eq
      obtain ⟨bs', e1, e2⟩ := map_of e
      subst e2
      rw [bools_of e1]; rfl
    · cases e
theorem boolsOf_map : ∀ bs : List Bool, boolsOf (bs.map .bool) = some bs
  | [] => rfl
  | b :: bs => by show (boolsOf (bs.map .bool)).map (b :: ·) = _; rw [boolsOf_map bs]; rfl
def fAll : List PyData → Option PyData
  | [.list ds] => (boolsOf ds).map fun bs => .bool (bs.all id)
  | _ => none
theorem sc_all : SimC K (rAll K) (liftD fAll) := lift_ok fun C H vs ds r ex dv e Q q => by
  unfold fAll at e
  split at e
  · obtain ⟨bs, e1, e⟩ := map_of e
    cases e
    cases bools_of e1
    exact G.cd_all C H vs ex dv Q q
  · cases e
def fAny : List PyData → Option PyData
  | [.list ds] => (boolsOf ds).map fun bs => .bool (bs.any id)
  | _ => none
theorem sc_any : SimC K (rAny K) (liftD fAny) := lift_ok fun C H vs ds r ex dv e Q q => by
  unfold fAny at e
  split at e
  · obtain ⟨bs, e1, e⟩ := map_of e
    cases e
    cases bools_of e1
    exact G.cd_any C H vs ex dv Q q
  · cases e
/-- isinstance(x, T) -/
def mIsi (n : String) (me : ME) : ME := fun env h => (me env h).bind fun r => match r.1 with
  | .d p => (kitB (G.kindOf p) n).map fun k => (.d (.bool k), r.2)
  | .tup _ => (kitB "tuple" n).map fun k => (.d (.bool k), r.2)
  | .ref m => match r.2[m]? with
    | some (.lst _) => (kitB "list" n).map fun k => (.d (.bool k), r.2)
    | _ => none
/-! ### None -/
def isNon : MV → Bool
  | .d .none => true
  | _ => false
def mIsN (neg : Bool) : MO2 := fun a b h => if isNon b = true then some (.d (.bool (if neg = true then !isNon a else isNon a)), h) else none
theorem isNon_rep {v : V} {x : MV} (r : Rep K w.ι w.C v x) : decide (v = .non) = isNon x := by
  cases r with
  | d r => cases r <;> simp [isNon]
  | ref _ => simp [isNon]
  | tup _ _ => simp [isNon]
theorem sr_isN : SimR K rIsN (mIsN false) := fun w h x y a b v h' rl rx ry e Q q => by
  unfold mIsN at e
  split at e
  · rename_i hb
    cases e
    refine ⟨by rw [← isNon_rep ry] at hb; simpa using hb, q w _ (.refl _) rl ?_⟩
    rw [isNon_rep rx]
    exact .d (.bl _)
  · cases e
theorem sr_notN : SimR K rNotN (mIsN true) := fun w h x y a b v h' rl rx ry e Q q => by
  unfold mIsN at e
  split at e
  · rename_i hb
    cases e
    refine ⟨by rw [← isNon_rep ry] at hb; simpa using hb, q w _ (.refl _) rl ?_⟩
    rw [isNon_rep rx]
    exact .d (.bl _)
  · cases e
end
end M
namespace M
open PySem PySem.Spec PyProof.Rows L2
open Evl (Ex ex_rd ex_l ex_t rMax2)
open G (dpx dpax dpa_len dpa_get dpa_app dpa_set ex_none wipe_get wipe_eq wipe_wipe RD UD CD Ret rMin2 rInt1 rAbs rTupOf rListOf)
section
variable {K : PySem.W.Frag} {w : Wd} {h : MH}
theorem sm_isi {ta : TE} {ma : ME} {n : String} (ha : SimE K ta ma) : SimE K (G.tIsi K ta n) (mIsi n ma) := fun w h σ env v h' rl re e Q q => by
  obtain ⟨⟨a, h1⟩, e1, e⟩ := bind_of e
  refine ha w h σ env a h1 rl re e1 _ fun w1 u s1 r1 x1 => ?_
  have fin : ∀ T k, TyX K w1.H u (.type T) → kitB T n = some k → Q (.bl k) w1.H → rIsi K [u, .ty n] w1.H Q := fun T k ht hk hq => ⟨u, .ty n, _, .type n, k, rfl, .ty n, ht, kit_ty hk, hq⟩
  cases a with
  | d p =>
    obtain ⟨k, e2, e⟩ := map_of e
    cases e
    exact fin _ k (G.tyx (dpx r1.ch x1.dat)) e2 (q w1 _ s1 r1 (.d (.bl k)))
  | tup xs =>
    obtain ⟨k, e2, e⟩ := map_of e
    cases e
    cases x1 with
    | tup hq ha =>
      refine fin "tuple" k ?_ e2 (q w1 _ s1 r1 (.d (.bl k)))
      rcases ex_t r1.ch (sqt hq) with (h | ⟨o, h⟩) | ⟨o, its, n, h, c, _⟩
      · exact .base (.tup h)
      · exact .fTuple h
      · exact .kTuple h c
  | ref m =>
    simp only at e
    split at e
    · rename_i xs ex
      obtain ⟨k, e2, e⟩ := map_of e
      cases e
      obtain ⟨ad, vs, rfl, g1, g2, g3⟩ := r1.lst x1 ex
      exact fin "list" k (.base (.lst g2)) e2 (q w1 _ s1 r1 (.d (.bl k)))
    · cases e
/-! ### what is walked -/
noncomputable def pairM (x y : MV) : MV := mkTup [x, y]
def mIter (me : ME) : MI := fun env h => (me env h).bind fun r => match r.1 with
  | .d (.list ds) => some (([], ds.map .d), r.2)
  | .d (.tuple ds) => some (([], ds.map .d), r.2)
  | .tup xs => some (([], xs), r.2)
  | .ref n => (asL r.2 (.ref n)).map fun l => (([l], l.2), r.2)
  | _ => none
/-- the row's source, its items -/
def rowOf (h : MH) (x : MV) : Option (List (Nat × List MV) × List MV) := match x with
  | .d (.list ds) => some ([], ds.map .d)
  | .d (.tuple ds) => some ([], ds.map .d)
  | .tup xs => some ([], xs)
  | .ref n => (asL h (.ref n)).map fun l => ([l], l.2)
  | _ => none
/-- a list that can be read as long as its source stands -/
theorem row_L {x : MV} {v : V} {src : List (Nat × List MV)} {xs : List MV} (r : Rel K w h) (rx : Rep K w.ι w.C v x) (t : isT x = false) (e : rowOf h x = some (src, xs)) :
    ∃ a, v = .ref a ∧ ∀ w2 h2, Step w w2 → Rel K w2 h2 → (∀ s ∈ src, h2[s.1]? = some (.lst s.2)) → ∃ vs, SqL K w2.H a vs ∧ RepA K w2.ι w2.C vs xs := by
  cases x with
  | d p =>
    cases p with
    | list ds =>
      cases e
      cases rx with
      | d rx => cases rx with
        | lst hq ha => exact ⟨_, rfl, fun w2 h2 s r2 _ => ⟨_, ex_l r2.ch (ex_l s.ex hq), (RepA.ofD ha).up s⟩⟩
    | tuple ds => cases t
    | none => cases e
    | bool _ => cases e
    | int _ => cases e
    | str _ => cases e
    | dict _ => cases e
  | tup ys => cases t
  | ref n =>
    obtain ⟨⟨m, ys⟩, e1, e2⟩ := map_of e
    cases e2
    obtain ⟨eo, ex⟩ := asL_of e1
    cases eo
    obtain ⟨a, vs, h1, h2, h3, h4⟩ := r.lst rx ex
    refine ⟨a, h1, fun w2 hh2 s r2 hs => ?_⟩
    subst h1
    obtain ⟨a', vs', g0, g1, g2, g3⟩ := r2.lst (rx.up s) (hs (n, ys) List.mem_cons_self)
    cases g0
    exact ⟨vs', .inl (.inl g2), g3⟩
theorem row_T {x : MV} {v : V} {src : List (Nat × List MV)} {xs : List MV} (r : Rel K w h) (rx : Rep K w.ι w.C v x) (t : isT x = true) (e : rowOf h x = some (src, xs)) :
    ∃ a, v = .ref a ∧ ∀ w2 h2, Step w w2 → Rel K w2 h2 → ∃ vs, SqT K w2.H a vs ∧ RepA K w2.ι w2.C vs xs := by
  cases x with
  | d p =>
    cases p with
    | tuple ds =>
      cases e
      cases rx with
      | d rx => cases rx with
        | tup hq ha => exact ⟨_, rfl, fun w2 h2 s r2 => ⟨_, ex_t r2.ch (ex_t s.ex hq), (RepA.ofD ha).up s⟩⟩
    | _ => cases t
  | tup ys =>
    cases e
    cases rx with
    | tup hq ha => exact ⟨_, rfl, fun w2 h2 s r2 => ⟨_, ex_t r2.ch (ex_t s.ex (sqt hq)), ha.up s⟩⟩
  | ref n => cases t
def mItL (me : ME) : MI := fun env h => (me env h).bind fun r => if isT r.1 = false then (rowOf r.2 r.1).map fun s => (s, r.2) else none
def mItT (me : ME) : MI := fun env h => (me env h).bind fun r => if isT r.1 = true then (rowOf r.2 r.1).map fun s => (s, r.2) else none
theorem same_step {w2 : Wd} {h2 : MH} {u : V} {x : MV} (r : Rel K w2 h2) (x1 : Rep K w2.ι w2.C u x) : ∃ w3 : Wd, w3.H = w2.H ∧ Step w2 w3 ∧ Rel K w3 h2 ∧ Rep K w3.ι w3.C u x := ⟨w2, rfl, .refl _, r, x1⟩
theorem si_list {te : TE} {me : ME} (h : SimE K te me) : SimI K (iList K te) (mItL me) := fun w h0 σ env si h' rl re e R q => by
  obtain ⟨⟨a, h1⟩, e1, e⟩ := bind_of e
  simp only at e
  split at e
  · rename_i ht
    obtain ⟨⟨src, xs⟩, e2, e⟩ := map_of e
    cases e
    refine h w h0 σ env a _ rl re e1 _ fun w1 u s1 r1 x1 => ?_
    obtain ⟨ad, rfl, k⟩ := row_L r1 x1 ht e2
    have k0 : ∀ s ∈ src, h'[s.1]? = some (Ob.lst s.2) := fun s m => by
      cases a with
      | ref n =>
        obtain ⟨⟨n', ys⟩, e3, e4⟩ := map_of e2
        cases e4
        obtain ⟨eo, ex⟩ := asL_of e3
        cases List.mem_singleton.mp m
        exact ex
      | d p => cases p <;> (first | (cases e2; cases m) | cases e2)
      | tup ys => cases e2; cases m
    obtain ⟨vs0, z0, _⟩ := k w1 h' (.refl _) r1 k0
    refine ⟨ad, rfl, ⟨vs0, z0⟩, q w1 _ s1 r1 fun w2 h2 s2 r2 hs => ?_⟩
    obtain ⟨vs, z1, z2⟩ := k w2 h2 s2 r2 hs
    refine ⟨⟨vs, z1, by rw [z2.len]; exact Nat.le_refl _⟩, fun i x ex => ?_⟩
    obtain ⟨u, g1, g2⟩ := z2.get ex
    refine ⟨⟨vs, u, z1, g1⟩, fun u' H' y => ?_⟩
    obtain ⟨rfl, y⟩ := y
    have := (y vs z1).symm.trans g1
    cases this
    exact same_step r2 g2
  · cases e
theorem si_tup {te : TE} {me : ME} (h : SimE K te me) : SimI K (iTup K te) (mItT me) := fun w h0 σ env si h' rl re e R q => by
  obtain ⟨⟨a, h1⟩, e1, e⟩ := bind_of e
  simp only at e
  split at e
  · rename_i ht
    obtain ⟨⟨src, xs⟩, e2, e⟩ := map_of e
    cases e
    refine h w h0 σ env a _ rl re e1 _ fun w1 u s1 r1 x1 => ?_
    obtain ⟨ad, rfl, k⟩ := row_T r1 x1 ht e2
    obtain ⟨vs0, z0, _⟩ := k w1 h' (.refl _) r1
    refine ⟨ad, rfl, ⟨vs0, z0⟩, q w1 _ s1 r1 fun w2 h2 s2 r2 hs => ?_⟩
    obtain ⟨vs, z1, z2⟩ := k w2 h2 s2 r2
    refine ⟨⟨vs, z1, by rw [z2.len]; exact Nat.le_refl _⟩, fun i x ex => ?_⟩
    obtain ⟨u, g1, g2⟩ := z2.get ex
    refine ⟨⟨vs, u, z1, g1⟩, fun u' H' y => ?_⟩
    obtain ⟨rfl, y⟩ := y
    have := (y vs z1).symm.trans g1
    cases this
    exact same_step r2 g2
  · cases e
def args1 : List MV → Option Int
  | [x] => asI x
  | _ => none
def mRng1 (ma : MA) : MI := fun env h => (ma env h).bind fun r => (args1 r.1).bind fun n => if n ≤ 100000000 ∧ -100000000 ≤ n then some (([], (List.range n.toNat).map fun (k : Nat) => .d (.int (k : Int))), r.2) else none
theorem si_rng1 {ta : TA} {ma : MA} (h : SimA K ta ma) : SimI K (iRng1 ta) (mRng1 ma) := fun w h0 σ env si h' rl re e R q => by
  obtain ⟨⟨xs, h1⟩, e1, e⟩ := bind_of e
  obtain ⟨n, e2, e⟩ := bind_of e
  simp only at e
  split at e
  · rename_i hn
    cases e
    refine h w h0 σ env xs _ rl re e1 _ fun w1 us s1 r1 x1 => ?_
    replace e2 : args1 xs = some n := e2
    unfold args1 at e2
    split at e2
    · rename_i x
      obtain ⟨u, rfl, x2⟩ := x1.one
      have := asI_rep x2 e2
      subst this
      refine ⟨n, rfl, by omega, by omega, q w1 _ s1 r1 fun w2 h2 s2 r2 hs => ⟨(by show _ ≤ _; simp only [List.length_map, List.length_range]; exact Nat.le_refl _), fun i x ex => ?_⟩⟩
      rw [List.getElem?_map] at ex
      obtain ⟨k, hk, rfl⟩ := Option.map_eq_some_iff.mp ex
      obtain ⟨hlt, rfl⟩ := List.getElem?_eq_some_iff.mp hk
      refine ⟨(by show i < _; simpa only [List.length_range] using hlt), fun x H' y => ?_⟩
      obtain ⟨rfl, rfl⟩ := y
      have : (0 : Int) + (i : Int) = (i : Int) := Int.zero_add _
      rw [this, List.getElem_range]
      exact same_step r2 (.d (.int _))
    · cases e2
  · cases e
def args2 : List MV → Option (Int × Int)
  | [x, y] => (asI x).bind fun i => (asI y).map fun j => (i, j)
  | _ => none
def mRng2 (ma : MA) : MI := fun env h => (ma env h).bind fun r => (args2 r.1).bind fun n => if -100000000 ≤ n.1 ∧ n.1 ≤ 100000000 ∧ -100000000 ≤ n.2 ∧ n.2 ≤ 100000000 then some (([], (List.range (n.2 - n.1).toNat).map fun (k : Nat) => .d (.int (n.1 + (k : Int)))), r.2) else none
theorem si_rng2 {ta : TA} {ma : MA} (h : SimA K ta ma) : SimI K (iRng2 ta) (mRng2 ma) := fun w h0 σ env si h' rl re e R q => by
  obtain ⟨⟨xs, h1⟩, e1, e⟩ := bind_of e
  obtain ⟨⟨m, n⟩, e2, e⟩ := bind_of e
  simp only at e
  split at e
  · rename_i hn
    cases e
    refine h w h0 σ env xs _ rl re e1 _ fun w1 us s1 r1 x1 => ?_
    replace e2 : args2 xs = some (m, n) := e2
    unfold args2 at e2
    split at e2
    · rename_i x y
      obtain ⟨i', e3, e2⟩ := bind_of e2
      obtain ⟨j', e4, e2⟩ := map_of e2
      cases e2
      cases x1 with
      | cons xa xb =>
        obtain ⟨u2, rfl, xc⟩ := xb.one
        have := asI_rep xa e3
        subst this
        have := asI_rep xc e4
        subst this
        refine ⟨m, n, rfl, by omega, q w1 _ s1 r1 fun w2 h2 s2 r2 hs => ⟨(by show _ ≤ _; simp only [List.length_map, List.length_range]; exact Nat.le_refl _), fun i x ex => ?_⟩⟩
        rw [List.getElem?_map] at ex
        obtain ⟨k, hk, rfl⟩ := Option.map_eq_some_iff.mp ex
        obtain ⟨hlt, rfl⟩ := List.getElem?_eq_some_iff.mp hk
        refine ⟨(by show i < _; simpa only [List.length_range] using hlt), fun x H' y => ?_⟩
        obtain ⟨rfl, rfl⟩ := y
        rw [List.getElem_range]
        exact same_step r2 (.d (.int _))
    · cases e2
  · cases e
theorem RepA.two {ι : List Addr} {C : Hp} {us : List V} {x y : MV} (r : RepA K ι C us [x, y]) : ∃ u v, us = [u, v] ∧ Rep K ι C u x ∧ Rep K ι C v y := by
  cases r with
  | cons ra rb =>
    obtain ⟨v, rfl, rc⟩ := rb.one
    exact ⟨_, v, rfl, ra, rc⟩
def argsTT : List MV → Option (MV × MV)
  | [x, y] => some (x, y)
  | _ => none
theorem argsTT_of {xs : List MV} {p : MV × MV} (e : argsTT xs = some p) : xs = [p.1, p.2] := by
  unfold argsTT at e
  split at e
  · cases e; rfl
  · cases e
noncomputable def mZip (ma : MA) : MI := fun env h => (ma env h).bind fun r => (argsTT r.1).bind fun p => if isT p.1 = isT p.2 then (rowOf r.2 p.1).bind fun s => (rowOf r.2 p.2).map fun t => ((s.1 ++ t.1, (s.2.zip t.2).map fun z => pairM z.1 z.2), r.2) else none
theorem pair_know {w2 : Wd} {h2 : MH} {u v : V} {x y : MV} {P : Addr} (r : Rel K w2 h2) (hx : Rep K w2.ι w2.C u x) (hy : Rep K w2.ι w2.C v y) (hP : w2.H P = none) :
    ∃ w3 : Wd, w3.H = upd w2.H P (.tup [u, v]) ∧ Step w2 w3 ∧ Rel K w3 h2 ∧ Rep K w3.ι w3.C (.ref P) (pairM x y) := by
  obtain ⟨s, r'⟩ := know_ok (o := .tup [u, v]) r hP
  exact ⟨_, rfl, s, r', mkTup_rep upd_same (.cons (hx.up s) (.cons (hy.up s) .nil))⟩
theorem row_src {x : MV} {src : List (Nat × List MV)} {xs : List MV} (e : rowOf h x = some (src, xs)) : ∀ s ∈ src, h[s.1]? = some (.lst s.2) := fun s m => by
  cases x with
  | ref n =>
    obtain ⟨⟨n', ys⟩, e3, e4⟩ := map_of e
    cases e4
    obtain ⟨eo, ex⟩ := asL_of e3
    cases List.mem_singleton.mp m
    exact ex
  | d p => cases p <;> (first | (cases e; cases m) | cases e)
  | tup ys => cases e; cases m
theorem si_zip {ta : TA} {ma : MA} (h : SimA K ta ma) : SimI K (RZ.iZipA K ta) (mZip ma) := fun w h0 σ env si h' rl re e R q => by
  obtain ⟨⟨xs, h1⟩, e1, e⟩ := bind_of e
  obtain ⟨⟨x, y⟩, e2, e⟩ := bind_of e
  simp only at e
  split at e
  · rename_i ht
    obtain ⟨⟨s1, xs1⟩, e3, e⟩ := bind_of e
    obtain ⟨⟨s2, xs2⟩, e4, e⟩ := map_of e
    cases e
    refine h w h0 σ env xs _ rl re e1 _ fun w1 us st1 r1 x1 => ?_
    replace e2 : argsTT xs = some (x, y) := e2
    rw [argsTT_of e2] at x1
    replace x1 : RepA K w1.ι w1.C us [x, y] := x1
    obtain ⟨u, v, rfl, hx, hy⟩ := x1.two
    cases hT : isT x with
    | true =>
      rw [hT] at ht
      obtain ⟨a, rfl, k1⟩ := row_T r1 hx hT e3
      obtain ⟨b, rfl, k2⟩ := row_T r1 hy ht.symm e4
      obtain ⟨vs1, z1, _⟩ := k1 w1 _ (.refl _) r1
      obtain ⟨vs2, z2, _⟩ := k2 w1 _ (.refl _) r1
      refine ⟨a, b, vs1, vs2, rfl, .inr ⟨z1, z2, q w1 _ st1 r1 fun w2 h2 st2 r2 hs => ?_⟩⟩
      obtain ⟨us1, y1, y2⟩ := k1 w2 h2 st2 r2
      obtain ⟨us2, y3, y4⟩ := k2 w2 h2 st2 r2
      refine ⟨⟨us1, us2, y1, y3, by simp [y2.len, y4.len]; omega⟩, fun i x ex => ?_⟩
      rw [List.getElem?_map] at ex
      obtain ⟨⟨p1, p2⟩, f1, rfl⟩ := Option.map_eq_some_iff.mp ex
      obtain ⟨f2, f3⟩ := List.getElem?_zip_eq_some.mp f1
      obtain ⟨g1, g2, g3⟩ := y2.get f2
      obtain ⟨g4, g5, g6⟩ := y4.get f3
      refine ⟨⟨us1, us2, g1, g4, y1, y3, g2, g5⟩, fun x H' yy => ?_⟩
      obtain ⟨P, zz1, zz2, rfl, nP, rfl, o1, o2⟩ := yy
      have w1' := (o1 _ y1).symm.trans g2
      have w2' := (o2 _ y3).symm.trans g5
      cases w1'; cases w2'
      exact pair_know r2 g3 g6 nP
    | false =>
      rw [hT] at ht
      obtain ⟨a, rfl, k1⟩ := row_L r1 hx hT e3
      obtain ⟨b, rfl, k2⟩ := row_L r1 hy ht.symm e4
      obtain ⟨vs1, z1, _⟩ := k1 w1 _ (.refl _) r1 (row_src e3)
      obtain ⟨vs2, z2, _⟩ := k2 w1 _ (.refl _) r1 (row_src e4)
      refine ⟨a, b, vs1, vs2, rfl, .inl ⟨z1, z2, q w1 _ st1 r1 fun w2 h2 st2 r2 hs => ?_⟩⟩
      obtain ⟨us1, y1, y2⟩ := k1 w2 h2 st2 r2 fun s m => hs s (List.mem_append_left _ m)
      obtain ⟨us2, y3, y4⟩ := k2 w2 h2 st2 r2 fun s m => hs s (List.mem_append_right _ m)
      refine ⟨⟨us1, us2, y1, y3, by simp [y2.len, y4.len]; omega⟩, fun i x ex => ?_⟩
      rw [List.getElem?_map] at ex
      obtain ⟨⟨p1, p2⟩, f1, rfl⟩ := Option.map_eq_some_iff.mp ex
      obtain ⟨f2, f3⟩ := List.getElem?_zip_eq_some.mp f1
      obtain ⟨g1, g2, g3⟩ := y2.get f2
      obtain ⟨g4, g5, g6⟩ := y4.get f3
      refine ⟨⟨us1, us2, g1, g4, y1, y3, g2, g5⟩, fun x H' yy => ?_⟩
      obtain ⟨P, zz1, zz2, rfl, nP, rfl, o1, o2⟩ := yy
      have w1' := (o1 _ y1).symm.trans g2
      have w2' := (o2 _ y3).symm.trans g5
      cases w1'; cases w2'
      exact pair_know r2 g3 g6 nP
  · cases e
noncomputable def mEnum (ma : MA) : MI := fun env h => (ma env h).bind fun r => (arg1 r.1).bind fun x => (rowOf r.2 x).map fun s => ((s.1, s.2.zipIdx.map fun z => pairM (.d (.int (z.2 : Int))) z.1), r.2)
theorem si_enum {ta : TA} {ma : MA} (h : SimA K ta ma) : SimI K (G.iEnumA K ta) (mEnum ma) := fun w h0 σ env si h' rl re e R q => by
  obtain ⟨⟨xs, h1⟩, e1, e⟩ := bind_of e
  obtain ⟨x, e2, e⟩ := bind_of e
  obtain ⟨⟨s1, xs1⟩, e3, e⟩ := map_of e
  cases e
  refine h w h0 σ env xs _ rl re e1 _ fun w1 us st1 r1 x1 => ?_
  replace e2 : arg1 xs = some x := e2
  rw [arg1_of e2] at x1
  obtain ⟨u, rfl, hx⟩ := x1.one
  have item : ∀ {w2 h2 us1 i x}, Rel K w2 h2 → RepA K w2.ι w2.C us1 xs1 → (xs1.zipIdx.map fun z => pairM (.d (.int (z.2 : Int))) z.1)[i]? = some x → ∃ y, us1[i]? = some y ∧ ∀ P, w2.H P = none → ∃ w3 : Wd, w3.H = upd w2.H P (.tup [.int (i : Nat), y]) ∧ Step w2 w3 ∧ Rel K w3 h2 ∧ Rep K w3.ι w3.C (.ref P) x := by
    intro w2 h2 us1 i x r2 y2 ex
    rw [List.getElem?_map] at ex
    obtain ⟨⟨p1, p2⟩, f1, rfl⟩ := Option.map_eq_some_iff.mp ex
    rw [List.getElem?_zipIdx] at f1
    obtain ⟨z, f2, f3⟩ := Option.map_eq_some_iff.mp f1
    cases f3
    obtain ⟨g1, g2, g3⟩ := y2.get f2
    refine ⟨g1, g2, fun P nP => ?_⟩
    have : ((0 + i : Nat) : Int) = (i : Int) := by omega
    rw [this]
    exact pair_know r2 (.d (.int _)) g3 nP
  cases hT : isT x with
  | true =>
    obtain ⟨a, rfl, k1⟩ := row_T r1 hx hT e3
    obtain ⟨vs1, z1, _⟩ := k1 w1 _ (.refl _) r1
    refine ⟨a, vs1, rfl, .inr ⟨z1, q w1 _ st1 r1 fun w2 h2 st2 r2 hs => ?_⟩⟩
    obtain ⟨us1, y1, y2⟩ := k1 w2 h2 st2 r2
    refine ⟨⟨us1, y1, by simp [y2.len]⟩, fun i x ex => ?_⟩
    obtain ⟨y, g1, g2⟩ := item r2 y2 ex
    refine ⟨⟨us1, y, y1, g1⟩, fun x H' yy => ?_⟩
    obtain ⟨P, zz1, rfl, nP, rfl, o1⟩ := yy
    have w1' := (o1 _ y1).symm.trans g1
    cases w1'
    exact g2 P nP
  | false =>
    obtain ⟨a, rfl, k1⟩ := row_L r1 hx hT e3
    obtain ⟨vs1, z1, _⟩ := k1 w1 _ (.refl _) r1 (row_src e3)
    refine ⟨a, vs1, rfl, .inl ⟨z1, q w1 _ st1 r1 fun w2 h2 st2 r2 hs => ?_⟩⟩
    obtain ⟨us1, y1, y2⟩ := k1 w2 h2 st2 r2 hs
    refine ⟨⟨us1, y1, by simp [y2.len]⟩, fun i x ex => ?_⟩
    obtain ⟨y, g1, g2⟩ := item r2 y2 ex
    refine ⟨⟨us1, y, y1, g1⟩, fun x H' yy => ?_⟩
    obtain ⟨P, zz1, rfl, nP, rfl, o1⟩ := yy
    have w1' := (o1 _ y1).symm.trans g1
    cases w1'
    exact g2 P nP
end
end M
namespace M
open PySem PySem.Spec PyProof.Rows L2
open Evl (Ex ex_rd ex_l ex_t rMax2)
open G (dpx dpax dpa_len dpa_get dpa_app dpa_set ex_none wipe_get wipe_eq wipe_wipe RD UD CD Ret rMin2 rInt1 rAbs rTupOf rListOf)
section
variable {K : PySem.W.Frag} {w : Wd} {h : MH}
/-! ### dicts -/
def valG {κ β : Type} [DecidableEq κ] (kvs : List (κ × β)) (k : κ) : Option β := match kvs with
  | [] => none
  | p :: r => if p.1 = k then some p.2 else valG r k
def hasG {κ β : Type} [DecidableEq κ] (kvs : List (κ × β)) (k : κ) : Bool := (valG kvs k).isSome
def replG {κ β : Type} [DecidableEq κ] (kvs : List (κ × β)) (k : κ) (v : β) : List (κ × β) := kvs.map fun kv => if kv.1 = k then (kv.1, v) else kv
def putG {κ β : Type} [DecidableEq κ] (kvs : List (κ × β)) (k : κ) (v : β) : List (κ × β) := if hasG kvs k = true then replG kvs k v else kvs ++ [(k, v)]
section
variable {κ : Type} [DecidableEq κ] {ι : List Addr} {C : Hp}
def KRep (K : PySem.W.Frag) (ι : List Addr) (C : Hp) (kvs : List (κ × V)) (kws : List (κ × MV)) : Prop := kvs.map (·.1) = kws.map (·.1) ∧ RepA K ι C (kvs.map (·.2)) (kws.map (·.2))
theorem KRep.cases {p : κ × V} {kvs : List (κ × V)} {q : κ × MV} {kws : List (κ × MV)} (h : KRep K ι C (p :: kvs) (q :: kws)) : p.1 = q.1 ∧ Rep K ι C p.2 q.2 ∧ KRep K ι C kvs kws := by
  obtain ⟨h1, h2⟩ := h
  simp only [List.map_cons, List.cons.injEq] at h1
  cases h2 with
  | cons r1 r2 => exact ⟨h1.1, r1, h1.2, r2⟩
theorem KRep.cons {p : κ × V} {kvs : List (κ × V)} {q : κ × MV} {kws : List (κ × MV)} (h1 : p.1 = q.1) (h2 : Rep K ι C p.2 q.2) (h3 : KRep K ι C kvs kws) : KRep K ι C (p :: kvs) (q :: kws) := by
  refine ⟨?_, .cons h2 h3.2⟩
  simp only [List.map_cons, h1, h3.1]
theorem KRep.len {kvs : List (κ × V)} {kws : List (κ × MV)} (h : KRep K ι C kvs kws) : kvs.length = kws.length := by
  have := congrArg List.length h.1
  simpa using this
theorem KRep.val : ∀ {kvs : List (κ × V)} {kws : List (κ × MV)}, KRep K ι C kvs kws → ∀ k, match valG kws k with
    | none => valV kvs k = none
    | some x => ∃ v, valV kvs k = some v ∧ Rep K ι C v x
  | [], [], _, k => rfl
  | [], _ :: _, h, k => by have := h.len; cases this
  | _ :: _, [], h, k => by have := h.len; cases this
  | p :: kvs, q :: kws, h, k => by
    obtain ⟨h1, h2, h3⟩ := h.cases
    unfold valG
    by_cases e : q.1 = k
    · rw [if_pos e]
      exact ⟨p.2, valV_pos (h1.trans e), h2⟩
    · rw [if_neg e]
      rw [valV_neg (fun z => e (h1.symm.trans z))]
      exact KRep.val h3 k
theorem KRep.valN {kvs : List (κ × V)} {kws : List (κ × MV)} (h : KRep K ι C kvs kws) {k : κ} (e : valG kws k = none) : valV kvs k = none := by
  have := h.val k
  rw [e] at this
  exact this
theorem KRep.valS {kvs : List (κ × V)} {kws : List (κ × MV)} (h : KRep K ι C kvs kws) {k : κ} {x : MV} (e : valG kws k = some x) : ∃ v, valV kvs k = some v ∧ Rep K ι C v x := by
  have := h.val k
  rw [e] at this
  exact this
theorem KRep.isSome {kvs : List (κ × V)} {kws : List (κ × MV)} (h : KRep K ι C kvs kws) (k : κ) : (valV kvs k).isSome = (valG kws k).isSome := by
  cases e : valG kws k with
  | none => rw [h.valN e]; rfl
  | some x => obtain ⟨v, h1, _⟩ := h.valS e; rw [h1]; rfl
theorem KRep.app : ∀ {a : List (κ × V)} {b : List (κ × MV)} {c : List (κ × V)} {d : List (κ × MV)}, KRep K ι C a b → KRep K ι C c d → KRep K ι C (a ++ c) (b ++ d)
  | [], [], _, _, _, s => s
  | [], _ :: _, _, _, h, _ => by have := h.len; cases this
  | _ :: _, [], _, _, h, _ => by have := h.len; cases this
  | p :: a, q :: b, c, d, h, s => by
    obtain ⟨h1, h2, h3⟩ := h.cases
    exact .cons h1 h2 (KRep.app h3 s)
theorem KRep.repl {v : V} {x : MV} (r : Rep K ι C v x) (k : κ) : ∀ {kvs : List (κ × V)} {kws : List (κ × MV)}, KRep K ι C kvs kws → KRep K ι C (kvs.map fun kv => if kv.1 = k then (kv.1, v) else kv) (replG kws k x)
  | [], [], h => h
  | [], _ :: _, h => by have := h.len; cases this
  | _ :: _, [], h => by have := h.len; cases this
  | p :: kvs, q :: kws, h => by
    obtain ⟨h1, h2, h3⟩ := h.cases
    have ih := KRep.repl r k h3
    show KRep K ι C ((if p.1 = k then (p.1, v) else p) :: _) ((if q.1 = k then (q.1, x) else q) :: _)
    by_cases e : q.1 = k
    · rw [if_pos e, if_pos (h1.trans e)]; exact .cons h1 r ih
    · rw [if_neg e, if_neg (fun z => e (h1.symm.trans z))]; exact .cons h1 h2 ih
theorem KRep.put {kvs : List (κ × V)} {kws : List (κ × MV)} {v : V} {x : MV} (h : KRep K ι C kvs kws) (r : Rep K ι C v x) (k : κ) : KRep K ι C (putK kvs k v) (putG kws k x) := by
  unfold putK putG hasG
  rw [valV_any, h.isSome k]
  cases (valG kws k).isSome with
  | true => exact h.repl r k
  | false => exact h.app (.cons rfl r ⟨rfl, .nil⟩)
end
def keyOf : MV → Option Key
  | .d (.int i) => some (.inl i)
  | .d (.str s) => some (.inr s)
  | _ => none
theorem keyOf_ok {v : V} {x : MV} {k : Key} (r : Rep K w.ι w.C v x) (e : keyOf x = some k) : v = kV k := by
  cases x with
  | d p =>
    cases p with
    | int i => cases e; cases r with | d r => cases r; rfl
    | str s => cases e; cases r with | d r => cases r; rfl
    | _ => cases e
  | _ => cases e
def asK (h : MH) : MV → Option (Nat × List (Key × MV))
  | .ref n => match h[n]? with
    | some (.dct kws) => some (n, kws)
    | _ => none
  | _ => none
theorem asK_of {v : MV} {n : Nat} {kws : List (Key × MV)} (e : asK h v = some (n, kws)) : v = .ref n ∧ h[n]? = some (.dct kws) := by
  cases v with
  | ref m =>
    unfold asK at e
    cases e1 : h[m]? with
    | none => simp only [e1] at e; cases e
    | some b =>
      cases b with
      | dct ys => simp only [e1] at e; cases e; exact ⟨rfl, e1⟩
      | lst _ => simp only [e1] at e; cases e
      | dctT _ => simp only [e1] at e; cases e
      | tab _ _ => simp only [e1] at e; cases e
      | dv _ => simp only [e1] at e; cases e
  | d _ => cases e
  | tup _ => cases e
theorem asK_ok (r : Rel K w h) {v : V} {x : MV} {n : Nat} {kws : List (Key × MV)} (rx : Rep K w.ι w.C v x) (e : asK h x = some (n, kws)) : ∃ a kvs, v = .ref a ∧ w.ι[n]? = some a ∧ w.H a = some (.dK kvs) ∧ KRep K w.ι w.C kvs kws := by
  obtain ⟨eo, ex⟩ := asK_of e
  subst eo
  obtain ⟨a, o, h1, h2, h3, h4⟩ := r.look rx ex
  cases h4 with
  | dct h4 h5 => exact ⟨a, _, h1, h2, h3, h4, h5⟩
/-- a dict stays a dict -/
theorem keep_dK {w' : Wd} {h' : MH} (s : Step w w') (r : Rel K w' h') {n : Nat} {a : Addr} {kws : List (Key × MV)} (ha : w.ι[n]? = some a) (e : h'[n]? = some (.dct kws)) : ∃ kvs, w'.H a = some (.dK kvs) ∧ KRep K w'.ι w'.C kvs kws := by
  obtain ⟨o, h1, h2⟩ := r.ob n a _ (pre_get s.pre ha) e
  cases h2 with
  | dct h4 h5 => exact ⟨_, h1, h4, h5⟩
def mDGet (md mk : ME) : ME := fun env h => (md env h).bind fun d => (mk env d.2).bind fun k => (asK k.2 d.1).bind fun t => (keyOf k.1).bind fun y => (valG t.2 y).map fun v => (v, k.2)
theorem sm_dget {td ty : TE} {md mk : ME} (hd : SimE K td md) (hk : SimE K ty mk) : SimE K (tDGet td ty) (mDGet md mk) := fun w h σ env v h' rl re e Q q => by
  obtain ⟨⟨a, h1⟩, e1, e⟩ := bind_of e
  obtain ⟨⟨b, h2⟩, e2, e⟩ := bind_of e
  obtain ⟨⟨n, kws⟩, e3, e⟩ := bind_of e
  obtain ⟨y, e4, e⟩ := bind_of e
  obtain ⟨x, e5, e⟩ := map_of e
  cases e
  refine hd w h σ env a h1 rl re e1 _ fun w1 u1 s1 r1 x1 => hk w1 h1 σ env b _ r1 (re.up s1) e2 _ fun w2 u2 s2 r2 x2 => ?_
  obtain ⟨ad, kvs, rfl, g1, g2, g3⟩ := asK_ok r2 (x1.up s2) e3
  have := keyOf_ok x2 e4
  subst this
  obtain ⟨u, f1, f2⟩ := g3.valS e5
  exact ⟨ad, u, rfl, .inl ⟨kvs, y, .inl g2, rfl, f1.symm⟩, q w2 u (s1.trans s2) r2 f2⟩
def mDIn (neg : Bool) (mk md : ME) : ME := fun env h => (mk env h).bind fun k => (md env k.2).bind fun d => (asK d.2 d.1).bind fun t => (keyOf k.1).map fun y => (.d (.bool (if neg = true then !(valG t.2 y).isSome else (valG t.2 y).isSome)), d.2)
theorem sm_din {td ty : TE} {md mk : ME} (hk : SimE K ty mk) (hd : SimE K td md) : SimE K (tDIn ty td) (mDIn false mk md) := fun w h σ env v h' rl re e Q q => by
  obtain ⟨⟨a, h1⟩, e1, e⟩ := bind_of e
  obtain ⟨⟨b, h2⟩, e2, e⟩ := bind_of e
  obtain ⟨⟨n, kws⟩, e3, e⟩ := bind_of e
  obtain ⟨y, e4, e⟩ := map_of e
  cases e
  refine hk w h σ env a h1 rl re e1 _ fun w1 u1 s1 r1 x1 => hd w1 h1 σ env b _ r1 (re.up s1) e2 _ fun w2 u2 s2 r2 x2 => ?_
  obtain ⟨ad, kvs, rfl, g1, g2, g3⟩ := asK_ok r2 x2 e3
  have := keyOf_ok (x1.up s2) e4
  subst this
  refine ⟨ad, _, rfl, .inl ⟨kvs, y, .inl g2, rfl, rfl⟩, q w2 _ (s1.trans s2) r2 ?_⟩
  rw [g3.isSome y]
  exact .d (.bl _)
theorem sm_dnotin {td ty : TE} {md mk : ME} (hk : SimE K ty mk) (hd : SimE K td md) : SimE K (tDNotIn ty td) (mDIn true mk md) := fun w h σ env v h' rl re e Q q => by
  obtain ⟨⟨a, h1⟩, e1, e⟩ := bind_of e
  obtain ⟨⟨b, h2⟩, e2, e⟩ := bind_of e
  obtain ⟨⟨n, kws⟩, e3, e⟩ := bind_of e
  obtain ⟨y, e4, e⟩ := map_of e
  cases e
  refine hk w h σ env a h1 rl re e1 _ fun w1 u1 s1 r1 x1 => hd w1 h1 σ env b _ r1 (re.up s1) e2 _ fun w2 u2 s2 r2 x2 => ?_
  obtain ⟨ad, kvs, rfl, g1, g2, g3⟩ := asK_ok r2 x2 e3
  have := keyOf_ok (x1.up s2) e4
  subst this
  refine ⟨ad, _, rfl, .inl ⟨kvs, y, .inl g2, rfl, rfl⟩, q w2 _ (s1.trans s2) r2 ?_⟩
  rw [g3.isSome y]
  exact .d (.bl _)
/-- d.get(k, x) -/
def mDGet2 (md mk mx : ME) : ME := fun env h => (md env h).bind fun d => (asK d.2 d.1).bind fun _ => (mk env d.2).bind fun k => (mx env k.2).bind fun x => (asK x.2 d.1).bind fun t => (keyOf k.1).map fun y => ((valG t.2 y).getD x.1, x.2)
theorem getD_rep {κ : Type} [DecidableEq κ] {ι : List Addr} {C : Hp} {kvs : List (κ × V)} {kws : List (κ × MV)} (h : KRep K ι C kvs kws) (k : κ) {u : V} {x : MV} (r : Rep K ι C u x) : Rep K ι C ((valV kvs k).getD u) ((valG kws k).getD x) := by
  cases e : valG kws k with
  | none => rw [h.valN e]; exact r
  | some y => obtain ⟨v, h1, h2⟩ := h.valS e; rw [h1]; exact h2
theorem sm_dget2 {td ty tx : TE} {md mk mx : ME} (hd : SimE K td md) (hk : SimE K ty mk) (hx : SimE K tx mx) : SimE K (tDGet2 td ty tx) (mDGet2 md mk mx) := fun w h σ env v h' rl re e Q q => by
  obtain ⟨⟨a, h1⟩, e1, e⟩ := bind_of e
  obtain ⟨⟨n0, kws0⟩, e0, e⟩ := bind_of e
  obtain ⟨⟨b, h2⟩, e2, e⟩ := bind_of e
  obtain ⟨⟨c, h3⟩, e3, e⟩ := bind_of e
  obtain ⟨⟨n, kws⟩, e4, e⟩ := bind_of e
  obtain ⟨y, e5, e⟩ := map_of e
  cases e
  refine hd w h σ env a h1 rl re e1 _ fun w1 u1 s1 r1 x1 => ?_
  obtain ⟨ad0, kvs0, rfl, g01, g02, g03⟩ := asK_ok r1 x1 e0
  refine ⟨ad0, rfl, .inl ⟨kvs0, .inl g02⟩, hk w1 h1 σ env b h2 r1 (re.up s1) e2 _ fun w2 u2 s2 r2 x2 => hx w2 h2 σ env c _ r2 ((re.up s1).up s2) e3 _ fun w3 u3 s3 r3 x3 => ?_⟩
  obtain ⟨ad, kvs, ea, g1, g2, g3⟩ := asK_ok r3 ((x1.up s2).up s3) e4
  cases ea
  have := keyOf_ok (x2.up s3) e5
  subst this
  exact ⟨_, .inl ⟨kvs, y, .inl g2, rfl, rfl⟩, q w3 _ ((s1.trans s2).trans s3) r3 (getD_rep g3 y x3)⟩
def mDNew : ME := fun _ h => some (.ref h.length, h ++ [.dct []])
theorem sm_dnew : SimE K tDNewK mDNew := fun w h σ env v h' rl re e Q q => by
  cases e
  intro p hp
  obtain ⟨s, r, g⟩ := alloc_ok (o := .dK []) (b := .dct []) rl hp (.dct rfl .nil)
  exact q (w.alloc p (.dK [])) (.ref p) s r (.ref g)
/-- {k: v, ..} -/
def mPairs : List (ME × ME) → Env → MH → Option (List (Key × MV) × MH)
  | [], _, h => some ([], h)
  | (mk, mv) :: r, env, h => (mk env h).bind fun k => (mv env k.2).bind fun v => (keyOf k.1).bind fun y => (mPairs r env v.2).map fun s => ((y, v.1) :: s.1, s.2)
def mergeG (kvs more : List (Key × MV)) : List (Key × MV) := more.foldl (fun acc kv => putG acc kv.1 kv.2) kvs
def mDisp (ps : List (ME × ME)) : ME := fun env h => (mPairs ps env h).bind fun r => if r.1.length ≤ 15 then some (.ref r.2.length, r.2 ++ [.dct (mergeG [] r.1)]) else none
inductive SimPs (K : PySem.W.Frag) : List (TE × TE) → List (ME × ME) → Prop
  | nil : SimPs K [] []
  | cons {tk tv : TE} {mk mv : ME} {ts : List (TE × TE)} {ms : List (ME × ME)} : SimE K tk mk → SimE K tv mv → SimPs K ts ms → SimPs K ((tk, tv) :: ts) ((mk, mv) :: ms)
theorem pairs_ok {ts : List (TE × TE)} {ms : List (ME × ME)} (hp : SimPs K ts ms) : ∀ (w : Wd) (h : MH) (σ : L2.St) (env : Env) (kws : List (Key × MV)) (h' : MH), Rel K w h → RepE K w σ env → mPairs ms env h = some (kws, h') → ∀ Q : List (V × V) → Hp → Prop,
    (∀ w' (kvs : List (Key × V)), Step w w' → Rel K w' h' → KRep K w'.ι w'.C kvs kws → Q (kvs.map fun kv => (kV kv.1, kv.2)) w'.H) → tPairs ts σ w.H Q := by
  induction hp with
  | nil => intro w h σ env kws h' rl re e Q q; cases e; exact q w [] (.refl _) rl ⟨rfl, .nil⟩
  | cons hk hv hr ih =>
    intro w h σ env kws h' rl re e Q q
    obtain ⟨⟨a, h1⟩, e1, e⟩ := bind_of e
    obtain ⟨⟨b, h2⟩, e2, e⟩ := bind_of e
    obtain ⟨y, e3, e⟩ := bind_of e
    obtain ⟨⟨r, h3⟩, e4, e⟩ := map_of e
    cases e
    refine hk w h σ env a h1 rl re e1 _ fun w1 u1 s1 r1 x1 => hv w1 h1 σ env b _ r1 (re.up s1) e2 _ fun w2 u2 s2 r2 x2 => ih w2 h2 σ env r h3 r2 ((re.up s1).up s2) e4 _ fun w3 kvs s3 r3 x3 => ?_
    have := keyOf_ok x1 e3
    subst this
    exact q w3 ((y, u2) :: kvs) ((s1.trans s2).trans s3) r3 (.cons rfl (x2.up s3) x3)
theorem merge_rep {ι : List Addr} {C : Hp} : ∀ {more : List (Key × V)} {morew : List (Key × MV)} {kvs : List (Key × V)} {kws : List (Key × MV)}, KRep K ι C more morew → KRep K ι C kvs kws → KRep K ι C (mergeK kvs more) (mergeG kws morew)
  | [], [], _, _, _, h => h
  | [], _ :: _, _, _, h, _ => by have := h.len; cases this
  | _ :: _, [], _, _, h, _ => by have := h.len; cases this
  | p :: more, q :: morew, kvs, kws, h, g => by
    obtain ⟨h1, h2, h3⟩ := h.cases
    show KRep K ι C (mergeK (putK kvs p.1 p.2) more) (mergeG (putG kws q.1 q.2) morew)
    rw [h1]
    exact merge_rep h3 (g.put h2 q.1)
theorem sm_disp {ts : List (TE × TE)} {ms : List (ME × ME)} (hp : SimPs K ts ms) : SimE K (tDisp ts) (mDisp ms) := fun w h σ env v h' rl re e Q q => by
  obtain ⟨⟨kws, h1⟩, e1, e⟩ := bind_of e
  simp only at e
  split at e
  · rename_i hz
    cases e
    intro p hpn
    obtain ⟨s0, r0⟩ := fresh_ok (o := .dK []) rl hpn
    refine pairs_ok hp _ h σ env kws h1 r0 (re.up s0) e1 _ fun w1 kvs s1 r1 x1 => ?_
    have hn0 := rl.notin hpn
    have hc0 := rl.cnone hpn
    have hp1 : w1.H p = some (.dK []) := s1.fr p _ upd_same hn0
    have hn1 : p ∉ w1.ι := fun m => by
      rcases s1.nw p m with z | z
      · exact hn0 z
      · have z' : upd w.H p (.dK []) p = none := z
        rw [upd_same] at z'; cases z'
    have hc1 : w1.C p = none := s1.nc p (by show upd w.H p (.dK []) p ≠ none; rw [upd_same]; exact fun z => nomatch z) hc0
    refine ⟨hp1, kvs, rfl, by rw [x1.len]; exact hz, ?_⟩
    -- p becomes one's own
    have pf : w1.ι <+: w1.ι ++ [p] := List.prefix_append _ _
    have mg := merge_rep x1 (show KRep K w1.ι w1.C [] [] from ⟨rfl, .nil⟩)
    obtain ⟨s2, r2⟩ := garb (o := .dK (mergeK [] kvs)) (s0.trans s1) r1 hpn hn1 hc1
    refine q ⟨w1.ι ++ [p], w1.C, upd w1.H p (.dK (mergeK [] kvs))⟩ (.ref p) ⟨s2.pre.trans pf, s2.ex, s2.fr, fun a m => ?_, s2.nc, s2.kp⟩ ⟨r2.ch, ?_, ?_, fun a m => ?_, fun n a b g1 g2 => ?_⟩ (.ref ?_)
    · rcases List.mem_append.mp m with z | z
      · exact s2.nw a z
      · rw [List.mem_singleton.mp z]; exact .inr hpn
    · show (w1.ι ++ [p]).length = _
      rw [List.length_append, List.length_append, r1.len]; rfl
    · refine List.nodup_append.mpr ⟨r1.nd, by simp, fun a m b m' => ?_⟩
      rw [List.mem_singleton.mp m']
      exact fun z => hn1 (by rw [← z]; exact m)
    · rcases List.mem_append.mp m with z | z
      · exact r1.ow a z
      · rw [List.mem_singleton.mp z]; exact hc1
    · replace g1 : (w1.ι ++ [p])[n]? = some a := g1
      replace g2 : (h1 ++ [Ob.dct (mergeG [] kws)])[n]? = some b := g2
      by_cases z : n < h1.length
      · rw [List.getElem?_append_left z] at g2
        rw [List.getElem?_append_left (by rw [r1.len]; exact z)] at g1
        obtain ⟨o, q1, q2⟩ := r2.ob n a b g1 g2
        exact ⟨o, q1, q2.mono pf fun _ _ q => q⟩
      · rw [List.getElem?_append_right (by omega)] at g2
        rw [List.getElem?_append_right (by rw [r1.len]; omega), r1.len] at g1
        have hz : n - h1.length = 0 := by
          cases hn : n - h1.length with
          | zero => rfl
          | succ k => rw [hn] at g2; simp at g2
        rw [hz] at g2 g1
        simp at g2 g1
        subst g2 g1
        exact ⟨_, upd_same, .dct mg.1 (mg.2.mono pf fun _ _ q => q)⟩
    · show (w1.ι ++ [p])[h1.length]? = some p
      rw [← r1.len, List.getElem?_append_right (Nat.le_refl _), Nat.sub_self]; rfl
  · cases e
/-- d[k] = v: the value first, then the dict, then the key -/
def mDPut (md mk mv : ME) : MS := fun env h => (mv env h).bind fun v => (md env v.2).bind fun d => (mk env d.2).bind fun k => (asK k.2 d.1).bind fun t => (keyOf k.1).bind fun y => if t.2.length < 100000 then some (.nx env (k.2.set t.1 (.dct (putG t.2 y v.1)))) else none
theorem ss_dput {td ty tv : TE} {md mk mv : ME} (hd : SimE K td md) (hk : SimE K ty mk) (hv : SimE K tv mv) : SimS K (sDPut td ty tv) (mDPut md mk mv) := fun D w h σ env r rl re e p => by
  obtain ⟨⟨v, hh1⟩, e1, e⟩ := bind_of e
  obtain ⟨⟨o, hh2⟩, e2, e⟩ := bind_of e
  obtain ⟨⟨i, hh3⟩, e3, e⟩ := bind_of e
  obtain ⟨⟨n, kws⟩, e4, e⟩ := bind_of e
  obtain ⟨y, e5, e⟩ := bind_of e
  simp only at e
  split at e
  · rename_i hz
    cases e
    refine hv w h σ env v hh1 rl re e1 _ fun w1 u1 s1 r1 x1 => hd w1 hh1 σ env _ hh2 r1 (re.up s1) e2 _ fun w2 u2 s2 r2 x2 => hk w2 hh2 σ env _ hh3 r2 ((re.up s1).up s2) e3 _ fun w3 u3 s3 r3 x3 => ?_
    obtain ⟨a, kvs, rfl, g1, g2, g3⟩ := asK_ok r3 (x2.up s3) e4
    have := keyOf_ok x3 e5
    subst this
    have x1' := (x1.up s2).up s3
    have mg := g3.put x1' y
    obtain ⟨s4, r4⟩ := write_ok (o := .dK (putK kvs y u1)) r3 g1 (.dct mg.1 mg.2)
    have ss := ((s1.trans s2).trans s3).trans s4
    exact ⟨a, _, rfl, .inl ⟨kvs, y, g2, rfl, by rw [g3.len]; exact Nat.lt_of_lt_of_le hz sl_100000, rfl⟩, p (w3.write a _) σ ss r4 (re.up ss)⟩
  · cases e
/-- len of a dict -/
def rLenD : List V → Hp → VK → Prop := fun xs H Q => ∃ a kvs, xs = [V.ref a] ∧ H a = some (.dK kvs) ∧ Q (.int kvs.length) H
def mLenD : MCa := fun xs h => (arg1 xs).bind fun x => (asK h x).map fun t => (.d (.int t.2.length), h)
theorem sc_lenD : SimC K rLenD mLenD := fun w h us xs v h' rl ra e Q q => by
  obtain ⟨x, e1, e⟩ := bind_of e
  obtain ⟨⟨n, kws⟩, e2, e⟩ := map_of e
  cases e
  rw [arg1_of e1] at ra
  obtain ⟨u, rfl, rx⟩ := ra.one
  obtain ⟨a, kvs, rfl, g1, g2, g3⟩ := asK_ok rl rx e2
  exact ⟨a, kvs, rfl, g2, by rw [g3.len]; exact q w _ (.refl _) rl (.d (.int _))⟩
/-- dict(d) -/
def mDictCp : MCa := fun xs h => (arg1 xs).bind fun x => (asK h x).map fun t => (.ref h.length, h ++ [.dct t.2])
theorem sc_dictCp : SimC K rDictCp mDictCp := fun w h us xs v h' rl ra e Q q => by
  obtain ⟨x, e1, e⟩ := bind_of e
  obtain ⟨⟨n, kws⟩, e2, e⟩ := map_of e
  cases e
  rw [arg1_of e1] at ra
  obtain ⟨u, rfl, rx⟩ := ra.one
  obtain ⟨a, kvs, rfl, g1, g2, g3⟩ := asK_ok rl rx e2
  refine ⟨a, kvs, rfl, .inl g2, fun p hp => ?_⟩
  obtain ⟨s, r, g⟩ := alloc_ok (o := .dK kvs) (b := .dct kws) rl hp (.dct g3.1 (g3.2.mono (List.prefix_append _ _) fun _ _ z => z))
  exact q (w.alloc p (.dK kvs)) (.ref p) s r (.ref g)
/-! ### slices -/
abbrev MO := Env → MH → Option (Option Int × MH)
def SimO (K : PySem.W.Frag) (t : TO) (m : MO) : Prop := ∀ w h σ env v h', Rel K w h → RepE K w σ env → m env h = some (v, h') → ∀ Q : Option Int → Hp → Prop, (∀ w', Step w w' → Rel K w' h' → Q v w'.H) → t σ w.H Q
def mNoPart : MO := fun _ h => some (none, h)
def mPart (me : ME) : MO := fun env h => (me env h).bind fun r => (asI r.1).map fun i => (some i, r.2)
theorem so_none : SimO K tNoPart mNoPart := fun w h σ env v h' rl re e Q q => by
  cases e
  exact q w (.refl _) rl
theorem so_some {te : TE} {me : ME} (he : SimE K te me) : SimO K (tPart te) (mPart me) := fun w h σ env v h' rl re e Q q => by
  obtain ⟨⟨a, h1⟩, e1, e⟩ := bind_of e
  obtain ⟨i, e2, e⟩ := map_of e
  cases e
  exact he w h σ env a _ rl re e1 _ fun w1 u s1 r1 x1 => ⟨i, asI_rep x1 e2, q w1 s1 r1⟩
def cutM {α : Type} (xs : List α) (lo hi : Option Int) : List α := (xs.drop (HT.sIx xs.length 0 lo)).take (HT.sIx xs.length xs.length hi - HT.sIx xs.length 0 lo)
theorem RepA.drop {ι : List Addr} {C : Hp} : ∀ {vs : List V} {xs : List MV} (n : Nat), RepA K ι C vs xs → RepA K ι C (vs.drop n) (xs.drop n)
  | _, _, 0, h => h
  | _, _, n + 1, .nil => .nil
  | _, _, n + 1, .cons _ t => RepA.drop n t
theorem RepA.take {ι : List Addr} {C : Hp} : ∀ {vs : List V} {xs : List MV} (n : Nat), RepA K ι C vs xs → RepA K ι C (vs.take n) (xs.take n)
  | _, _, 0, _ => .nil
  | _, _, n + 1, .nil => .nil
  | _, _, n + 1, .cons r t => .cons r (RepA.take n t)
theorem cut_rep {ι : List Addr} {C : Hp} {vs : List V} {xs : List MV} (r : RepA K ι C vs xs) (lo hi : Option Int) : RepA K ι C (cutV vs lo hi) (cutM xs lo hi) := by
  unfold cutV cutM
  rw [r.len]
  exact (r.drop _).take _
def mSlL (me : ME) (ml mh : MO) : MA := fun env h => (me env h).bind fun r => (ml env r.2).bind fun l => (mh env l.2).bind fun u => if isT r.1 = false then (itemsOf u.2 r.1).map fun xs => (cutM xs l.1 u.1, u.2) else none
theorem sm_slL {te : TE} {tl th : TO} {me : ME} {ml mh : MO} (h1 : SimE K te me) (h2 : SimO K tl ml) (h3 : SimO K th mh) : SimF K (tSl (rSlL K) te tl th) (mSlL me ml mh) := fun w h σ env v h' rl re e Q q => by
  obtain ⟨⟨a, hh1⟩, e1, e⟩ := bind_of e
  obtain ⟨⟨l, hh2⟩, e2, e⟩ := bind_of e
  obtain ⟨⟨u, hh3⟩, e3, e⟩ := bind_of e
  simp only at e
  split at e
  · rename_i ht
    obtain ⟨xs, e4, e⟩ := map_of e
    cases e
    refine h1 w h σ env a hh1 rl re e1 _ fun w1 x s1 r1 x1 => h2 w1 hh1 σ env l hh2 r1 (re.up s1) e2 _ fun w2 s2 r2 => h3 w2 hh2 σ env u _ r2 ((re.up s1).up s2) e3 _ fun w3 s3 r3 => ?_
    obtain ⟨p, vs, rfl, hs, rv⟩ := items_L r3 ((x1.up s2).up s3) e4 ht
    refine ⟨p, vs, rfl, hs, fun l' hl => ?_⟩
    obtain ⟨s4, r4⟩ := fresh_ok (o := .lst (cutV vs l u)) r3 hl
    have ss := (s1.trans s2).trans s3
    exact q _ l' _ (ss.trans s4) r4 (by
      cases z : w.H l' with
      | none => rfl
      | some o => exact absurd hl (ss.kp l' (by rw [z]; exact fun q => nomatch q))) upd_same (r3.notin hl) (r3.cnone hl) (cut_rep rv l u)
  · cases e
def mSlT (me : ME) (ml mh : MO) : ME := fun env h => (me env h).bind fun r => (ml env r.2).bind fun l => (mh env l.2).bind fun u => if isT r.1 = true then (itemsOf u.2 r.1).bind fun xs => if HT.sIx xs.length 0 l.1 = 0 ∧ HT.sIx xs.length xs.length u.1 = xs.length then none else some (mkTup (cutM xs l.1 u.1), u.2) else none
theorem sm_slT {te : TE} {tl th : TO} {me : ME} {ml mh : MO} (h1 : SimE K te me) (h2 : SimO K tl ml) (h3 : SimO K th mh) : SimE K (tSl (rSlT K) te tl th) (mSlT me ml mh) := fun w h σ env v h' rl re e Q q => by
  obtain ⟨⟨a, hh1⟩, e1, e⟩ := bind_of e
  obtain ⟨⟨l, hh2⟩, e2, e⟩ := bind_of e
  obtain ⟨⟨u, hh3⟩, e3, e⟩ := bind_of e
  simp only at e
  split at e
  · rename_i ht
    obtain ⟨xs, e4, e⟩ := bind_of e
    split at e
    · cases e
    · rename_i hw
      cases e
      refine h1 w h σ env a hh1 rl re e1 _ fun w1 x s1 r1 x1 => h2 w1 hh1 σ env l hh2 r1 (re.up s1) e2 _ fun w2 s2 r2 => h3 w2 hh2 σ env u _ r2 ((re.up s1).up s2) e3 _ fun w3 s3 r3 => ?_
      obtain ⟨p, vs, rfl, hs, rv⟩ := items_T r3 ((x1.up s2).up s3) e4 ht
      refine ⟨p, vs, rfl, ex_t r3.ch hs, by rw [rv.len]; exact hw, fun l' hl => ?_⟩
      obtain ⟨s4, r4⟩ := know_ok (o := .tup (cutV vs l u)) r3 hl
      exact q (w3.know l' _) _ (((s1.trans s2).trans s3).trans s4) r4 (mkTup_rep upd_same ((cut_rep rv l u).up s4))
  · cases e
end
end M
namespace M
open PySem PySem.Spec PyProof.Rows L2
open Evl (Ex ex_rd ex_l ex_t rMax2)
open G (dpx dpax dpa_len dpa_get dpa_app dpa_set ex_none wipe_get wipe_eq wipe_wipe RD UD CD Ret rMin2 rInt1 rAbs rTupOf rListOf)
/-! ### constants of the top -/
def GlV (K : PySem.W.Frag) (u : Value) (d : PyData) : Prop := ∃ v : V, RelV v u ∧ ∀ C, Dp K C v d
def GlD (K : PySem.W.Frag) (mg : Str → Option Value) (x : Str) (d : PyData) : Prop := ∃ u, mg x = some u ∧ GlV K u d
inductive GlVs (K : PySem.W.Frag) : List Value → List PyData → Prop
  | nil : GlVs K [] []
  | cons {u : Value} {d : PyData} {us : List Value} {ds : List PyData} : GlV K u d → GlVs K us ds → GlVs K (u :: us) (d :: ds)
theorem glVs_ok {K : PySem.W.Frag} {us : List Value} {ds : List PyData} (h : GlVs K us ds) : ∃ vs, Vals vs us ∧ ∀ C, DpAll K C vs ds := by
  induction h with
  | nil => exact ⟨[], .nil, fun _ => .nil⟩
  | cons h _ ih =>
    obtain ⟨v, r, d⟩ := h
    obtain ⟨vs, rs, ds⟩ := ih
    exact ⟨v :: vs, .cons r rs, fun C => .cons (d C) (ds C)⟩
theorem glV_tup {K : PySem.W.Frag} {a : Addr} {od : Option Addr} {its : Array Value} {n : Nat} {sl : Array (Option Value)} {ds : List PyData} (h : K.lookup a = some ⟨.type "tuple", od, .seq its n, sl⟩) (hz : its.size ≤ sizeLine) (hs : GlVs K its.toList ds) : GlV K (.ref a) (.tuple ds) := by
  obtain ⟨vs, r, d⟩ := glVs_ok hs
  exact ⟨.ref a, rfl, fun C => .tup (.inr ⟨_, its, n, h, rfl, rfl, hz, r⟩) (d C)⟩
def tGlD (K : PySem.W.Frag) (d : PyData) : TE := fun _ H Q => ∀ v, (∀ C, Dp K C v d) → Q v H
theorem pe_glD {X : Cx} {x : Str} {d : PyData} {pos : Pos} (hg : Gl X x) (h : GlD X.K X.mg x d) (hd : (x == ("__debug__" : Str)) = false := by decide) : PE X (.Name x pos) (tGlD X.K d) := by
  obtain ⟨u, hm, v, r, dp⟩ := h
  exact ⟨fun _ _ _ H _ I q => ld_glob I hg hm ⟨v, H, I, r, q v dp⟩ hd⟩
section
variable {K : PySem.W.Frag} {w : Wd} {h : MH}
theorem sm_glD {d : PyData} : SimE K (tGlD K d) (mK d) := fun w h σ env x h' rl re e Q q => by
  cases e
  exact fun v dp => q w v (.refl _) rl (.d (dp _))
def mPar (i j : Nat) (ma : MA) : MS := fun env h => (ma env h).bind fun r => (argsTT r.1).map fun p => .nx ((env.set i (some p.1)).set j (some p.2)) r.2
theorem ss_par {i j : Nat} {ta : TA} {ma : MA} (ha : SimA K ta ma) : SimS K (tPar i j ta) (mPar i j ma) := fun D w h σ env r rl re e p => by
  obtain ⟨⟨xs, h1⟩, e1, e⟩ := bind_of e
  obtain ⟨⟨x, y⟩, e2, e⟩ := map_of e
  cases e
  refine ha w h σ env xs _ rl re e1 _ fun w1 us s1 r1 x1 => ?_
  replace e2 : argsTT xs = some (x, y) := e2
  rw [argsTT_of e2] at x1
  obtain ⟨u, v, rfl, hx, hy⟩ := x1.two
  exact ⟨u, v, rfl, p w1 _ s1 r1 (((re.up s1).put hx i).put hy j)⟩
/-- a tuple of data, k times -/
def mRepA : MO2 := fun a b h => match a with
  | .d (.tuple ds) => (asI b).bind fun k => if ds ≠ [] ∧ ds.length ≤ 1000 ∧ 1 ≤ k ∧ k ≤ 1000 then some (.d (.tuple (List.replicate k.toNat ds).flatten), h) else none
  | _ => none
theorem sr_repA : SimR K (G.rRepA K) mRepA := fun w h x y a b v h' rl rx ry e Q q => by
  unfold mRepA at e
  split at e
  · rename_i ds
    obtain ⟨k, e1, e⟩ := bind_of e
    split at e
    · rename_i hk
      cases e
      have := asI_rep ry e1
      subst this
      refine G.rd_repA (K := K) hk.1 hk.2.1 hk.2.2.1 hk.2.2.2 w.C w.H x (.int k) rl.ch rx.dat (.int k) Q fun u H' t => ?_
      obtain ⟨C', a1, a2, a3, a4, a5⟩ := ret_dat t
      obtain ⟨s, r'⟩ := step_C rl a1 a2 a3 a4
      exact q ⟨w.ι, C', H'⟩ u s r' (.d a5)
    · cases e
  · cases e
/-! ### ascending numbers -/
def ins1 (x : Int) : List Int → List Int
  | [] => [x]
  | y :: ys => if x ≤ y then x :: y :: ys else y :: ins1 x ys
def isort : List Int → List Int
  | [] => []
  | x :: xs => ins1 x (isort xs)
theorem ins1_perm (x : Int) : ∀ ys : List Int, (ins1 x ys).Perm (x :: ys)
  | [] => .refl _
  | y :: ys => by
    unfold ins1
    split
    · exact .refl _
    · exact ((ins1_perm x ys).cons y).trans (List.Perm.swap x y ys)
theorem isort_perm : ∀ xs : List Int, (isort xs).Perm xs
  | [] => .refl _
  | x :: xs => (ins1_perm x _).trans ((isort_perm xs).cons x)
theorem ins1_asc (x : Int) : ∀ {ys : List Int}, ys.Pairwise (· ≤ ·) → (ins1 x ys).Pairwise (· ≤ ·)
  | [], _ => by simp [ins1]
  | y :: ys, h => by
    have hc := List.pairwise_cons.mp h
    unfold ins1
    split
    · rename_i hxy
      refine List.pairwise_cons.mpr ⟨fun z m => ?_, h⟩
      rcases List.mem_cons.mp m with rfl | m
      · exact hxy
      · exact Int.le_trans hxy (hc.1 z m)
    · rename_i hxy
      refine List.pairwise_cons.mpr ⟨fun z m => ?_, ins1_asc x hc.2⟩
      rcases List.mem_cons.mp ((ins1_perm x ys).mem_iff.mp m) with rfl | m
      · omega
      · exact hc.1 z m
theorem isort_asc : ∀ xs : List Int, (isort xs).Pairwise (· ≤ ·)
  | [] => .nil
  | x :: xs => ins1_asc x (isort_asc xs)
theorem asc_perm_eq : ∀ {xs ys : List Int}, xs.Perm ys → xs.Pairwise (· ≤ ·) → ys.Pairwise (· ≤ ·) → xs = ys
  | [], ys, p, _, _ => by simpa using p
  | x :: xs, [], p, _, _ => by simp at p
  | x :: xs, y :: ys, p, hx, hy => by
    have ax := List.pairwise_cons.mp hx
    have ay := List.pairwise_cons.mp hy
    have e : x = y := by
      have m1 : x ∈ y :: ys := p.mem_iff.mp List.mem_cons_self
      have m2 : y ∈ x :: xs := p.mem_iff.mpr List.mem_cons_self
      rcases List.mem_cons.mp m1 with e | m1
      · exact e
      · rcases List.mem_cons.mp m2 with e | m2
        · exact e.symm
        · exact Int.le_antisymm (ax.1 y m2) (ay.1 x m1)
    subst e
    rw [asc_perm_eq ((List.perm_cons x).mp p) ax.2 ay.2]
def intKeys : List Key → Option (List Int)
  | [] => some []
  | .inl i :: r => (intKeys r).map (i :: ·)
  | _ => none
theorem intKeys_of : ∀ {ks : List Key} {is : List Int}, intKeys ks = some is → ks = is.map Sum.inl
  | [], is, e => by cases e; rfl
  | .inl i :: r, is, e => by
    obtain ⟨js, e1, e2⟩ := map_of e
    subst e2
    rw [intKeys_of e1]; rfl
  | .inr _ :: _, _, e => by cases e
def rSortDI : List V → Hp → VK → Prop := fun vs H Q =>
  ∃ (a : Addr) (kvs : List (Key × V)) (ks : List Int),
    vs = [.ref a] ∧ Rd H a (.dK kvs) ∧ kvs.map (·.1) = ks.map Sum.inl ∧ ks.length < 64 ∧
    ∀ (ys : List Int) (p : Addr),
      ys.Perm ks → ys.Pairwise (· ≤ ·) → H p = none → Q (.ref p) (upd H p (.lst (ys.map V.int)))
def mSortDI : List MV → MH → Option (List MV × MH) := fun xs h => (arg1 xs).bind fun x => (asK h x).bind fun t => (intKeys (t.2.map (·.1))).bind fun ks => if ks.length < 64 then some ((isort ks).map fun k => .d (.int k), h) else none
theorem ints_rep {ι : List Addr} {C : Hp} : ∀ ks : List Int, RepA K ι C (ks.map V.int) (ks.map fun k => .d (.int k))
  | [] => .nil
  | k :: ks => .cons (.d (.int k)) (ints_rep ks)
theorem sf_sortDI : SimCF K rSortDI mSortDI := fun w h us xs ys h' rl ra e Q q => by
  obtain ⟨x, e1, e⟩ := bind_of e
  obtain ⟨⟨n, kws⟩, e2, e⟩ := bind_of e
  obtain ⟨ks, e3, e⟩ := bind_of e
  split at e
  · rename_i hz
    cases e
    rw [arg1_of e1] at ra
    obtain ⟨u, rfl, rx⟩ := ra.one
    obtain ⟨a, kvs, rfl, g1, g2, g3⟩ := asK_ok rl rx e2
    refine ⟨a, kvs, ks, rfl, .inl g2, g3.1.trans (intKeys_of e3), hz, fun zs p hp ha hn => ?_⟩
    have : zs = isort ks := asc_perm_eq (hp.trans (isort_perm ks).symm) ha (isort_asc ks)
    subst this
    obtain ⟨s, r⟩ := fresh_ok (o := .lst ((isort ks).map V.int)) rl hn
    exact q _ p _ s r hn upd_same (rl.notin hn) (rl.cnone hn) (ints_rep _)
  · cases e
end
/-! ### the law -/
def spLaw (K : PySem.W.Frag) : Sp := fun vs H Q _ => ∃ (a : Addr) (ns : List Int), vs = [.ref a] ∧ SqL K H a (ns.map V.int) ∧ ns.length ≤ 63 ∧ ∀ H', Q (.bl true) H'
theorem law_imp {K : PySem.W.Frag} {pf : List PyData → Option PyData} (tell : ∀ ns : List Int, ns.length ≤ 63 → pf [.list (ns.map .int)] = some (.bool true)) {vs : List V} {H : Hp} {Q : VK} {E : XK} (h : spLaw K vs H Q E) : spQ K pf vs H Q E := by
  obtain ⟨a, ns, rfl, hS, hl, q⟩ := h
  refine ⟨H, [.list (ns.map .int)], .bool true, Ex.refl H, .cons (.lst hS G.dpa_ints) .nil, tell ns hl, fun v H' r => ?_⟩
  obtain ⟨C', _, _, _, _, d⟩ := ret_dat r
  cases d
  exact q H'
end M
namespace M
open PySem PySem.Spec PyProof.Rows L2
open G (ti li)
/-! ### what things give -/
theorem e_arg1 {x : MV} : arg1 [x] = some x := rfl
theorem e_args1 {x : MV} : args1 [x] = asI x := rfl
theorem e_args2 {x y : MV} : args2 [x, y] = (asI x).bind fun i => (asI y).map fun j => (i, j) := rfl
theorem e_argsTT {x y : MV} : argsTT [x, y] = some (x, y) := rfl
theorem e_asI {i : Int} : asI (.d (.int i)) = some i := rfl
theorem e_asB {b : Bool} {h : MH} : asB (.d (.bool b), h) = some (b, h) := rfl
theorem e_itL {h : MH} {ds : List PyData} : itemsOf h (.d (.list ds)) = some (ds.map .d) := rfl
theorem e_itT {h : MH} {ds : List PyData} : itemsOf h (.d (.tuple ds)) = some (ds.map .d) := rfl
theorem e_itM {h : MH} {xs : List MV} : itemsOf h (.tup xs) = some xs := rfl
theorem e_isTL {ds : List PyData} : isT (.d (.list ds)) = false := rfl
theorem e_isTT {ds : List PyData} : isT (.d (.tuple ds)) = true := rfl
theorem e_isTM {xs : List MV} : isT (.tup xs) = true := rfl
theorem e_isTR {n : Nat} : isT (.ref n) = false := rfl
theorem e_rowL {h : MH} {ds : List PyData} : rowOf h (.d (.list ds)) = some ([], ds.map .d) := rfl
theorem e_rowT {h : MH} {ds : List PyData} : rowOf h (.d (.tuple ds)) = some ([], ds.map .d) := rfl
theorem e_rowM {h : MH} {xs : List MV} : rowOf h (.tup xs) = some ([], xs) := rfl
theorem e_allD0 : allD [] = some [] := rfl
theorem e_allD1 {p : PyData} {xs : List MV} : allD (.d p :: xs) = (allD xs).map (p :: ·) := rfl
theorem e_allDm (ds : List PyData) : allD (ds.map .d) = some ds := allD_map ds
theorem e_allDf {α : Type} (f : α → PyData) (ks : List α) : allD (ks.map fun k => .d (f k)) = some (ks.map f) := by
  rw [show (ks.map fun k => MV.d (f k)) = (ks.map f).map .d by rw [List.map_map]; rfl]
  exact allD_map _
theorem e_liftD {f : List PyData → Option PyData} {xs : List MV} {h : MH} {ds : List PyData} (e : allD xs = some ds) : liftD f xs h = (f ds).map fun r => (.d r, h) := by unfold liftD; rw [e]
theorem e_lift1 {f : List PyData → Option PyData} {a : PyData} {h : MH} : liftD f [.d a] h = (f [a]).map fun r => (.d r, h) := rfl
theorem e_lift2 {f : List PyData → Option PyData} {a b : PyData} {h : MH} : liftD f [.d a, .d b] h = (f [a, b]).map fun r => (.d r, h) := rfl
theorem e_lift3 {f : List PyData → Option PyData} {a b c : PyData} {h : MH} : liftD f [.d a, .d b, .d c] h = (f [a, b, c]).map fun r => (.d r, h) := rfl
theorem e_lift4 {f : List PyData → Option PyData} {a b c d : PyData} {h : MH} : liftD f [.d a, .d b, .d c, .d d] h = (f [a, b, c, d]).map fun r => (.d r, h) := rfl
theorem e_mkTup1 {a : PyData} : mkTup [.d a] = .d (.tuple [a]) := rfl
theorem e_mkTup2 {a b : PyData} : mkTup [.d a, .d b] = .d (.tuple [a, b]) := rfl
theorem e_mkTup3 {a b c : PyData} : mkTup [.d a, .d b, .d c] = .d (.tuple [a, b, c]) := rfl
theorem e_mkTup4 {a b c d : PyData} : mkTup [.d a, .d b, .d c, .d d] = .d (.tuple [a, b, c, d]) := rfl
theorem e_mkTup5 {a b c d e : PyData} : mkTup [.d a, .d b, .d c, .d d, .d e] = .d (.tuple [a, b, c, d, e]) := rfl
theorem e_mkTupm (ds : List PyData) : mkTup (ds.map .d) = .d (.tuple ds) := mkTup_d ds
theorem e_mkTupf {α : Type} (f : α → PyData) (ks : List α) : mkTup (ks.map fun k => .d (f k)) = .d (.tuple (ks.map f)) := by unfold mkTup; rw [e_allDf]
theorem e_mgTupT {n : Nat} {gs : MGs} {ds : List PyData} {env : Env} : mgTup n gs (.d (.tuple ds)) env = if ds.length = n then gs (ds.map .d) env else none := rfl
theorem e_mgTupM {n : Nat} {gs : MGs} {xs : List MV} {env : Env} : mgTup n gs (.tup xs) env = if xs.length = n then gs xs env else none := rfl
theorem e_mgCons {g : MG} {gs : MGs} {v : MV} {r : List MV} {env : Env} : mgCons g gs (v :: r) env = (g v env).bind (gs r) := rfl
theorem e_mgNil {env : Env} : mgNil [] env = some env := rfl
theorem e_mgName {i : Nat} {v : MV} {env : Env} : mgName i v env = some (env.set i (some v)) := rfl
theorem e_seqN {mb : MS} {e : Env} {h : MH} : mSeqK mb (.nx e h) = mb e h := rfl
theorem e_seqR {mb : MS} {v : MV} {h : MH} : mSeqK mb (.rt v h) = some (.rt v h) := rfl
theorem e_seqB {mb : MS} {e : Env} {h : MH} : mSeqK mb (.bk e h) = some (.bk e h) := rfl
theorem e_seqC {mb : MS} {e : Env} {h : MH} : mSeqK mb (.ct e h) = some (.ct e h) := rfl
theorem e_resR {v : MV} {h : MH} : resM (.rt v h) = some (v, h) := rfl
theorem e_resN {e : Env} {h : MH} : resM (.nx e h) = some (.d .none, h) := rfl
theorem e_mVar {i : Nat} {env : Env} {h : MH} : mVar i env h = match env[i]? with
  | some (some v) => some (v, h)
  | _ => none := rfl
theorem e_int1 {i : Int} : fInt1 [.int i] = some (.int i) := rfl
theorem e_int1b {b : Bool} : fInt1 [.bool b] = some (.int (if b then 1 else 0)) := rfl
theorem e_max2 {i j : Int} : fMax2 [.int i, .int j] = some (.int (max i j)) := rfl
theorem e_min2 {i j : Int} : fMin2 [.int i, .int j] = some (.int (min i j)) := rfl
theorem e_abs {i : Int} : fAbs [.int i] = some (.int (i.natAbs : Int)) := rfl
theorem e_allB {bs : List Bool} : fAll [.list (bs.map .bool)] = some (.bool (bs.all id)) := by unfold fAll; simp only [boolsOf_map]; rfl
theorem e_anyB {bs : List Bool} : fAny [.list (bs.map .bool)] = some (.bool (bs.any id)) := by unfold fAny; simp only [boolsOf_map]; rfl
theorem e_allF {α : Type} {ks : List α} {f : α → Bool} : fAll [.list (ks.map fun k => .bool (f k))] = some (.bool (ks.all f)) := by
  have := e_allB (bs := ks.map f)
  rw [List.map_map] at this
  rw [show (ks.map fun k => PyData.bool (f k)) = ks.map (PyData.bool ∘ f) from rfl, this]
  congr 2
  rw [List.all_map]; rfl
theorem e_anyF {α : Type} {ks : List α} {f : α → Bool} : fAny [.list (ks.map fun k => .bool (f k))] = some (.bool (ks.any f)) := by
  have := e_anyB (bs := ks.map f)
  rw [List.map_map] at this
  rw [show (ks.map fun k => PyData.bool (f k)) = ks.map (PyData.bool ∘ f) from rfl, this]
  congr 2
  rw [List.any_map]; rfl
theorem e_repA {ds : List PyData} {k : Int} {h : MH} (h1 : ds ≠ []) (h2 : ds.length ≤ 1000) (h3 : 1 ≤ k) (h4 : k ≤ 1000) : mRepA (.d (.tuple ds)) (.d (.int k)) h = some (.d (.tuple (List.replicate k.toNat ds).flatten), h) := by
  unfold mRepA
  simp only [e_asI, Option.bind_some]
  rw [if_pos ⟨h1, h2, h3, h4⟩]
theorem e_eqD {neg : Bool} {d e : PyData} {h : MH} (h1 : SeqAt.shaped d = true) (h2 : SeqAt.shaped e = true) : mEqD neg (.d d) (.d e) h = some (.d (.bool (if neg = true then !PyData.eqv d e else PyData.eqv d e)), h) := by
  unfold mEqD
  rw [reify_d, reify_d, Option.bind_some, Option.bind_some, if_pos ⟨h1, h2⟩]
theorem e_eqI {i j : Int} {h : MH} : mEqD false (.d (.int i)) (.d (.int j)) h = some (.d (.bool (decide (i = j))), h) := by rw [e_eqD (G.sh_int i) (G.sh_int j), G.eqv_int]; rfl
theorem e_neI {i j : Int} {h : MH} : mEqD true (.d (.int i)) (.d (.int j)) h = some (.d (.bool (!decide (i = j))), h) := by rw [e_eqD (G.sh_int i) (G.sh_int j), G.eqv_int]; rfl
theorem e_eqB {i j : Bool} {h : MH} : mEqD false (.d (.bool i)) (.d (.bool j)) h = some (.d (.bool (decide (i = j))), h) := by rw [e_eqD (G.sh_bool i) (G.sh_bool j), G.eqv_bool]; rfl
theorem e_neB {i j : Bool} {h : MH} : mEqD true (.d (.bool i)) (.d (.bool j)) h = some (.d (.bool (!decide (i = j))), h) := by rw [e_eqD (G.sh_bool i) (G.sh_bool j), G.eqv_bool]; rfl
theorem e_eqT {xs ys : List Int} {h : MH} : mEqD false (.d (ti xs)) (.d (ti ys)) h = some (.d (.bool (decide (xs = ys))), h) := by rw [e_eqD (G.sh_ti xs) (G.sh_ti ys), G.eqv_ti]; rfl
theorem e_neT {xs ys : List Int} {h : MH} : mEqD true (.d (ti xs)) (.d (ti ys)) h = some (.d (.bool (!decide (xs = ys))), h) := by rw [e_eqD (G.sh_ti xs) (G.sh_ti ys), G.eqv_ti]; rfl
theorem e_eqL {xs ys : List Int} {h : MH} : mEqD false (.d (li xs)) (.d (li ys)) h = some (.d (.bool (decide (xs = ys))), h) := by rw [e_eqD (G.sh_li xs) (G.sh_li ys), G.eqv_li]; rfl
theorem e_neL {xs ys : List Int} {h : MH} : mEqD true (.d (li xs)) (.d (li ys)) h = some (.d (.bool (!decide (xs = ys))), h) := by rw [e_eqD (G.sh_li xs) (G.sh_li ys), G.eqv_li]; rfl
theorem e_IC {c : Int → Int → Prop} {g : Int → Int → Int} {i j : Int} {h : MH} (hc : c i j) : mIC c g (.d (.int i)) (.d (.int j)) h = some (.d (.int (g i j)), h) := by
  show (asI (.d (.int i))).bind _ = _
  rw [e_asI, Option.bind_some, e_asI, Option.bind_some, if_pos hc]
theorem e_mod {i j : Int} {h : MH} (hj : 0 < j) : mIC (fun _ j => 0 < j) (fun i j => i % j) (.d (.int i)) (.d (.int j)) h = some (.d (.int (i % j)), h) := e_IC hj
theorem e_I {g : Int → Int → Int} {i j : Int} {h : MH} : mI g (.d (.int i)) (.d (.int j)) h = some (.d (.int (g i j)), h) := rfl
theorem e_IB {g : Int → Int → Bool} {i j : Int} {h : MH} : mIB g (.d (.int i)) (.d (.int j)) h = some (.d (.bool (g i j)), h) := rfl
theorem e_neg {i : Int} {h : MH} : mNeg (.d (.int i)) h = some (.d (.int (-i)), h) := rfl
theorem atI_map {α β : Type} (f : α → β) (xs : List α) (i : Int) : atI (xs.map f) i = (atI xs i).map f := by
  unfold atI
  rw [List.length_map]
  cases ixN xs.length i with
  | none => rfl
  | some j => simp
theorem atI_get {α : Type} {xs : List α} {i : Int} (h0 : 0 ≤ i) (h1 : i < xs.length) (z : α) : atI xs i = some (xs.getD i.toNat z) := by
  refine G.atI_ok h0 ?_
  rw [List.getD_eq_getElem?_getD, List.getElem?_eq_getElem (by omega)]; rfl
theorem e_ixL {ds : List PyData} {i : Int} {h : MH} {p : PyData} (e : atI ds i = some p) : mIx (.d (.list ds)) (.d (.int i)) h = some (.d p, h) := by
  show (itemsOf h (.d (.list ds))).bind _ = _
  rw [e_itL, Option.bind_some, e_asI, Option.bind_some, atI_map, e]; rfl
theorem e_ixT {ds : List PyData} {i : Int} {h : MH} {p : PyData} (e : atI ds i = some p) : mIx (.d (.tuple ds)) (.d (.int i)) h = some (.d p, h) := by
  show (itemsOf h (.d (.tuple ds))).bind _ = _
  rw [e_itT, Option.bind_some, e_asI, Option.bind_some, atI_map, e]; rfl
theorem e_ixLi {xs : List Int} {i : Int} {h : MH} (h0 : 0 ≤ i) (h1 : i < xs.length) : mIx (.d (li xs)) (.d (.int i)) h = some (.d (.int (xs.getD i.toNat 0)), h) := e_ixL (by rw [atI_map, atI_get h0 h1 0]; rfl)
theorem e_ixTi {xs : List Int} {i : Int} {h : MH} (h0 : 0 ≤ i) (h1 : i < xs.length) : mIx (.d (ti xs)) (.d (.int i)) h = some (.d (.int (xs.getD i.toNat 0)), h) := e_ixT (by rw [atI_map, atI_get h0 h1 0]; rfl)
theorem e_ixR {n : Nat} {xs : List MV} {i : Int} {h : MH} {x : MV} (hn : h[n]? = some (.lst xs)) (e : atI xs i = some x) : mIx (.ref n) (.d (.int i)) h = some (x, h) := by
  show (itemsOf h (.ref n)).bind _ = _
  have : itemsOf h (.ref n) = some xs := by
    show (asL h (.ref n)).map (·.2) = _
    unfold asL
    simp only [hn]; rfl
  rw [this, Option.bind_some, e_asI, Option.bind_some, e]; rfl
theorem e_itR {n : Nat} {xs : List MV} {h : MH} (hn : h[n]? = some (.lst xs)) : itemsOf h (.ref n) = some xs := by
  show (asL h (.ref n)).map (·.2) = _
  unfold asL
  simp only [hn]; rfl
theorem e_asL {n : Nat} {xs : List MV} {h : MH} (hn : h[n]? = some (.lst xs)) : asL h (.ref n) = some (n, xs) := by
  unfold asL
  simp only [hn]
theorem e_asK {n : Nat} {kws : List (Key × MV)} {h : MH} (hn : h[n]? = some (.dct kws)) : asK h (.ref n) = some (n, kws) := by
  unfold asK
  simp only [hn]
theorem e_keyI {i : Int} : keyOf (.d (.int i)) = some (.inl i) := rfl
theorem e_keyS {s : Str} : keyOf (.d (.str s)) = some (.inr s) := rfl
/-! ### loops -/
theorem lc_map {α : Type} {g : MG} {me : ME} {env : Env} {h : MH} (φ f : α → MV) : ∀ ks : List α, (∀ k ∈ ks, (g (φ k) env).bind (fun e => me e h) = some (f k, h)) → lcLoop g mYes me [] env (ks.map φ) h = some (ks.map f, h)
  | [], _ => by rw [List.map_nil, lcLoop, srcIf_nil]; rfl
  | k :: ks, hb => by
    rw [List.map_cons, lcLoop, srcIf_nil]
    have h1 := hb k List.mem_cons_self
    obtain ⟨e', e1, e2⟩ := bind_of h1
    rw [e1, Option.bind_some]
    show (some (true, h)).bind _ = _
    rw [Option.bind_some]
    simp only [if_true]
    rw [e2, Option.bind_some, lc_map φ f ks fun k m => hb k (List.mem_cons_of_mem _ m)]
    rfl
theorem lc_filt {α : Type} {g : MG} {mt : MT} {me : ME} {env : Env} {h : MH} (φ f : α → MV) (c : α → Bool) : ∀ ks : List α, (∀ k ∈ ks, (g (φ k) env).bind (fun e => mt e h) = some (c k, h)) → (∀ k ∈ ks, c k = true → (g (φ k) env).bind (fun e => me e h) = some (f k, h)) → lcLoop g mt me [] env (ks.map φ) h = some ((ks.filter c).map f, h)
  | [], _, _ => by rw [List.map_nil, lcLoop, srcIf_nil]; rfl
  | k :: ks, ht, hb => by
    rw [List.map_cons, lcLoop, srcIf_nil]
    have h1 := ht k List.mem_cons_self
    obtain ⟨e', e1, e2⟩ := bind_of h1
    rw [e1, Option.bind_some, e2, Option.bind_some]
    have ih := lc_filt φ f c ks (fun k m => ht k (List.mem_cons_of_mem _ m)) (fun k m => hb k (List.mem_cons_of_mem _ m))
    cases hc : c k with
    | true =>
      have h2 := hb k List.mem_cons_self hc
      rw [e1, Option.bind_some] at h2
      rw [if_pos rfl, h2, Option.bind_some, ih, List.filter_cons, if_pos hc]
      rfl
    | false =>
      rw [if_neg (fun z => nomatch z), ih, List.filter_cons, if_neg (by rw [hc]; decide)]
theorem mLc_map {α : Type} {mi : MI} {g : MG} {me : ME} {vs : List Nat} {env : Env} {h h1 : MH} (ks : List α) (φ f : α → MV) (hi : mi env h = some (([], ks.map φ), h1)) (hb : ∀ k ∈ ks, (g (φ k) (wipeM env vs)).bind (fun e => me e h1) = some (f k, h1)) (hz : ks.length ≤ 100000) : mLc mi g mYes me vs env h = some (ks.map f, h1) := by
  unfold mLc
  rw [hi, Option.bind_some]
  show (lcLoop g mYes me [] (wipeM env vs) (ks.map φ) h1).bind _ = _
  rw [lc_map φ f ks hb, Option.bind_some, if_pos (by simpa using hz)]
theorem mLc_filt {α : Type} {mi : MI} {g : MG} {mt : MT} {me : ME} {vs : List Nat} {env : Env} {h h1 : MH} (ks : List α) (φ f : α → MV) (c : α → Bool) (hi : mi env h = some (([], ks.map φ), h1)) (ht : ∀ k ∈ ks, (g (φ k) (wipeM env vs)).bind (fun e => mt e h1) = some (c k, h1)) (hb : ∀ k ∈ ks, c k = true → (g (φ k) (wipeM env vs)).bind (fun e => me e h1) = some (f k, h1)) (hz : ks.length ≤ 100000) :
    mLc mi g mt me vs env h = some ((ks.filter c).map f, h1) := by
  unfold mLc
  rw [hi, Option.bind_some]
  show (lcLoop g mt me [] (wipeM env vs) (ks.map φ) h1).bind _ = _
  rw [lc_filt φ f c ks ht hb, Option.bind_some, if_pos (by
    show ((ks.filter c).map f).length ≤ _
    rw [List.length_map]; exact Nat.le_trans (List.length_filter_le _ _) hz)]
/-- a loop with an invariant: Inv i env h ahead of turn i -/
theorem mLoop_inv {α : Type} {g : MG} {mb : MS} (φ : α → MV) (ks : List α) (Inv : Nat → Env → MH → Prop) (step : ∀ i k env h, ks[i]? = some k → Inv i env h → ∃ env1 env2 h2, g (φ k) env = some env1 ∧ mb env1 h = some (.nx env2 h2) ∧ Inv (i + 1) env2 h2) :
    ∀ (i : Nat) (env : Env) (h : MH), i ≤ ks.length → Inv i env h → ∃ env' h', mLoop g mb [] ((ks.drop i).map φ) env h = some (.nx env' h') ∧ Inv ks.length env' h' := by
  intro i
  generalize hn : ks.length - i = n
  induction n generalizing i with
  | zero =>
    intro env h hi inv
    have : i = ks.length := by omega
    subst this
    rw [List.drop_length, List.map_nil, mLoop, srcIf_nil]
    exact ⟨env, h, rfl, inv⟩
  | succ n ih =>
    intro env h hi inv
    have hlt : i < ks.length := by omega
    rw [List.drop_eq_getElem_cons hlt, List.map_cons, mLoop, srcIf_nil]
    obtain ⟨e1, e2, h2, g1, g2, g3⟩ := step i ks[i] env h (by simp [hlt]) inv
    rw [g1, Option.bind_some, g2, Option.bind_some]
    exact ih (i + 1) (by omega) e2 h2 hlt g3
theorem mFor_inv {α : Type} {mi : MI} {g : MG} {mb : MS} {env : Env} {h h1 : MH} (ks : List α) (φ : α → MV) (hi : mi env h = some (([], ks.map φ), h1)) (Inv : Nat → Env → MH → Prop) (h0 : Inv 0 env h1)
    (step : ∀ i k env h, ks[i]? = some k → Inv i env h → ∃ env1 env2 h2, g (φ k) env = some env1 ∧ mb env1 h = some (.nx env2 h2) ∧ Inv (i + 1) env2 h2) : ∃ env' h', mFor mi g mb env h = some (.nx env' h') ∧ Inv ks.length env' h' := by
  unfold mFor
  rw [hi, Option.bind_some]
  exact mLoop_inv φ ks Inv step 0 env h1 (Nat.zero_le _) h0
theorem e_zipT {ma : MA} {env : Env} {h h1 : MH} {xs ys : List PyData} (e : ma env h = some ([.d (.tuple xs), .d (.tuple ys)], h1)) : mZip ma env h = some (([], (xs.zip ys).map fun z => .d (.tuple [z.1, z.2])), h1) := by
  unfold mZip
  rw [e, Option.bind_some, e_argsTT, Option.bind_some]
  simp only [e_isTT, if_true, e_rowT, Option.bind_some, Option.map_some, List.nil_append]
  congr 3
  rw [List.zip_map, List.map_map]
  refine List.map_congr_left fun z _ => ?_
  rfl
theorem e_enumT {ma : MA} {env : Env} {h h1 : MH} {xs : List PyData} (e : ma env h = some ([.d (.tuple xs)], h1)) : mEnum ma env h = some (([], xs.zipIdx.map fun z => .d (.tuple [.int (z.2 : Int), z.1])), h1) := by
  unfold mEnum
  rw [e, Option.bind_some, e_arg1, Option.bind_some, e_rowT, Option.map_some]
  congr 3
  rw [List.zipIdx_map, List.map_map]
  refine List.map_congr_left fun z _ => ?_
  rfl
theorem e_enumL {ma : MA} {env : Env} {h h1 : MH} {xs : List PyData} (e : ma env h = some ([.d (.list xs)], h1)) : mEnum ma env h = some (([], xs.zipIdx.map fun z => .d (.tuple [.int (z.2 : Int), z.1])), h1) := by
  unfold mEnum
  rw [e, Option.bind_some, e_arg1, Option.bind_some, e_rowL, Option.map_some]
  congr 3
  rw [List.zipIdx_map, List.map_map]
  refine List.map_congr_left fun z _ => ?_
  rfl
theorem e_rng1 {ma : MA} {env : Env} {h h1 : MH} {n : Int} (e : ma env h = some ([.d (.int n)], h1)) (hn : n ≤ 100000000) (h0 : -100000000 ≤ n) : mRng1 ma env h = some (([], (List.range n.toNat).map fun (k : Nat) => .d (.int (k : Int))), h1) := by
  unfold mRng1
  rw [e, Option.bind_some, e_args1, e_asI, Option.bind_some, if_pos ⟨hn, h0⟩]
theorem e_lst {me : ME} {env : Env} {h h1 : MH} {ds : List PyData} (e : me env h = some (.d (.list ds), h1)) : mItL me env h = some (([], ds.map .d), h1) := by
  unfold mItL
  rw [e, Option.bind_some, if_pos e_isTL, e_rowL]; rfl
theorem e_tup {me : ME} {env : Env} {h h1 : MH} {ds : List PyData} (e : me env h = some (.d (.tuple ds), h1)) : mItT me env h = some (([], ds.map .d), h1) := by
  unfold mItT
  rw [e, Option.bind_some, if_pos e_isTT, e_rowT]; rfl
end M
namespace M
open PySem PySem.Spec PyProof.Rows L2
open G (ti li)
theorem e_asL0 {xs : List MV} {h : MH} : asL (Ob.lst xs :: h) (.ref 0) = some (0, xs) := rfl
theorem e_asL1 {xs : List MV} {a : Ob} {h : MH} : asL (a :: Ob.lst xs :: h) (.ref 1) = some (1, xs) := rfl
theorem e_asL2 {xs : List MV} {a b : Ob} {h : MH} : asL (a :: b :: Ob.lst xs :: h) (.ref 2) = some (2, xs) := rfl
theorem e_it0 {xs : List MV} {h : MH} : itemsOf (Ob.lst xs :: h) (.ref 0) = some xs := rfl
theorem e_it1 {xs : List MV} {a : Ob} {h : MH} : itemsOf (a :: Ob.lst xs :: h) (.ref 1) = some xs := rfl
theorem e_it2 {xs : List MV} {a b : Ob} {h : MH} : itemsOf (a :: b :: Ob.lst xs :: h) (.ref 2) = some xs := rfl
abbrev dI (x : Int) : MV := .d (.int x)
theorem re_ints (k : Nat) (h : MH) (xs : List Int) : mapO (reify k h) (xs.map dI) = some (xs.map .int) := by
  rw [show xs.map dI = (xs.map PyData.int).map .d by rw [List.map_map]; rfl]
  exact mapO_reify_d k h _
theorem re_ref {k : Nat} {h : MH} {n : Nat} {ys : List MV} {ds : List PyData} (hn : h[n]? = some (.lst ys)) (e : mapO (reify k h) ys = some ds) : reify (k + 1) h (.ref n) = some (.list ds) := by
  show (match h[n]? with | some (.lst xs) => (mapO (reify k h) xs).map PyData.list | _ => none) = _
  simp only [hn, e]; rfl
theorem re_li {k : Nat} {h : MH} {n : Nat} {xs : List Int} (hn : h[n]? = some (.lst (xs.map dI))) : reify (k + 1) h (.ref n) = some (li xs) := re_ref hn (re_ints k h xs)
theorem ii_map (xs : List Int) : (xs.map PyData.int).map MV.d = xs.map dI := by rw [List.map_map]; rfl
theorem cmul_r {i j : Int} (h : -(2 ^ 64) < j ∧ j < 2 ^ 64) : CMul i j ∨ CMulW i j := .inl (.inr h)
theorem cmul_l {i j : Int} (h : -(2 ^ 64) < i ∧ i < 2 ^ 64) : CMul i j ∨ CMulW i j := .inl (.inl h)
theorem cdiv_ok {i j : Int} (h0 : 0 < j) (h1 : j < 2 ^ 62) : CDivW i j := by
  refine ⟨h0, ?_⟩
  have : j.natAbs < 2 ^ 9000 := by
    have : j.natAbs < 2 ^ 62 := by omega
    exact Nat.lt_of_lt_of_le this (Nat.pow_le_pow_right (by decide) (by decide))
  by_cases hz : j.natAbs = 0
  · rw [hz]; decide
  · exact (Nat.log2_lt hz).mpr this
theorem cpow_ok {i j : Int} (h0 : 0 ≤ j) (h1 : j ≤ 64) (h2 : i.natAbs < 2 ^ 64) : CPow i j := ⟨h0, by omega, h2⟩
theorem e_pow1018 {h : MH} : mIC CPow (fun i j => i ^ j.toNat) (.d (.int 10)) (.d (.int 18)) h = some (.d (.int 1000000000000000000), h) := by
  rw [e_IC (cpow_ok (by decide) (by decide) (by decide))]
  rfl
end M
namespace M
open PySem PySem.Spec PyProof.Rows L2
open G (ti li)
theorem tup_ti {α : Type} (f : α → Int) (ks : List α) : PyData.tuple (ks.map fun k => .int (f k)) = ti (ks.map f) := by
  unfold ti
  rw [List.map_map]; rfl
theorem lst_li {α : Type} (f : α → Int) (ks : List α) : PyData.list (ks.map fun k => .int (f k)) = li (ks.map f) := by
  unfold li
  rw [List.map_map]; rfl
theorem key_ne {s t : Str} (h : (s == t) = false) : ((Sum.inr s : Key) = Sum.inr t) = False := by
  refine eq_false fun e => ?_
  injection e with e
  subst e
  simp at h
end M
namespace M
open PySem
theorem str_ne {s t : Str} (h : (s == t) = false) : (s = t) = False := by
  refine eq_false fun e => ?_
  subst e
  simp at h
end M
namespace M
open PySem
theorem e_mCons {ma : ME} {mr : MA} {env : Env} {h h1 h2 : MH} {x : MV} {xs : List MV} (e1 : ma env h = some (x, h1)) (e2 : mr env h1 = some (xs, h2)) : mCons ma mr env h = some (x :: xs, h2) := by
  unfold mCons
  rw [e1, Option.bind_some, e2]; rfl
theorem e_mTup {ma : MA} {env : Env} {h h1 : MH} {xs : List MV} (e1 : ma env h = some (xs, h1)) (hz : xs.length ≤ 100000 := by decide) : mTup ma env h = some (mkTup xs, h1) := by
  unfold mTup
  rw [e1, Option.bind_some, if_pos hz]
theorem e_mOp {mr : MO2} {ma mb : ME} {env : Env} {h h1 h2 : MH} {x y : MV} (e1 : ma env h = some (x, h1)) (e2 : mb env h1 = some (y, h2)) : mOp mr ma mb env h = mr x y h2 := by
  unfold mOp
  rw [e1, Option.bind_some, e2]; rfl
theorem e_mCB {mr : MCa} {ma : MA} {env : Env} {h h1 : MH} {xs : List MV} (e1 : ma env h = some (xs, h1)) : mCB mr ma env h = mr xs h1 := by
  unfold mCB
  rw [e1]; rfl
theorem e_mSeq {a b : MS} {env env1 : Env} {h h1 : MH} (e : a env h = some (.nx env1 h1)) : mSeq a b env h = b env1 h1 := by
  unfold mSeq
  rw [e]; rfl
theorem e_mAsg {me : ME} {g : MG} {env env1 : Env} {h h1 : MH} {v : MV} (e : me env h = some (v, h1)) (e2 : g v env = some env1) : mAsg me g env h = some (.nx env1 h1) := by
  unfold mAsg
  rw [e, Option.bind_some, e2]; rfl
theorem e_mIfS {mt : MT} {a b : MS} {env : Env} {h h1 : MH} {k : Bool} (e : mt env h = some (k, h1)) : mIfS mt a b env h = if k = true then a env h1 else b env h1 := by
  unfold mIfS
  rw [e]; rfl
theorem e_mTest {me : ME} {env : Env} {h h1 : MH} {k : Bool} (e : me env h = some (.d (.bool k), h1)) : mTest me env h = some (k, h1) := by
  unfold mTest
  rw [e]; rfl
theorem e_mDrop {me : ME} {env : Env} {h h1 : MH} {v : MV} (e : me env h = some (v, h1)) : mDrop me env h = some (.nx env h1) := by
  unfold mDrop
  rw [e]; rfl
end M
namespace M
open PySem
theorem e_ixL_0 { x : PyData} {xs : List PyData} {h : MH} : mIx (.d (.list (x :: xs))) (.d (.int 0)) h = some (.d x, h) := e_ixL (G.atI_ok (by decide) rfl)
theorem e_ixT_0 { x : PyData} {xs : List PyData} {h : MH} : mIx (.d (.tuple (x :: xs))) (.d (.int 0)) h = some (.d x, h) := e_ixT (G.atI_ok (by decide) rfl)
theorem e_ixL_1 {a0 x : PyData} {xs : List PyData} {h : MH} : mIx (.d (.list (a0 :: x :: xs))) (.d (.int 1)) h = some (.d x, h) := e_ixL (G.atI_ok (by decide) rfl)
theorem e_ixT_1 {a0 x : PyData} {xs : List PyData} {h : MH} : mIx (.d (.tuple (a0 :: x :: xs))) (.d (.int 1)) h = some (.d x, h) := e_ixT (G.atI_ok (by decide) rfl)
theorem e_ixL_2 {a0 a1 x : PyData} {xs : List PyData} {h : MH} : mIx (.d (.list (a0 :: a1 :: x :: xs))) (.d (.int 2)) h = some (.d x, h) := e_ixL (G.atI_ok (by decide) rfl)
theorem e_ixT_2 {a0 a1 x : PyData} {xs : List PyData} {h : MH} : mIx (.d (.tuple (a0 :: a1 :: x :: xs))) (.d (.int 2)) h = some (.d x, h) := e_ixT (G.atI_ok (by decide) rfl)
theorem e_ixL_3 {a0 a1 a2 x : PyData} {xs : List PyData} {h : MH} : mIx (.d (.list (a0 :: a1 :: a2 :: x :: xs))) (.d (.int 3)) h = some (.d x, h) := e_ixL (G.atI_ok (by decide) rfl)
theorem e_ixT_3 {a0 a1 a2 x : PyData} {xs : List PyData} {h : MH} : mIx (.d (.tuple (a0 :: a1 :: a2 :: x :: xs))) (.d (.int 3)) h = some (.d x, h) := e_ixT (G.atI_ok (by decide) rfl)
theorem e_ixL_4 {a0 a1 a2 a3 x : PyData} {xs : List PyData} {h : MH} : mIx (.d (.list (a0 :: a1 :: a2 :: a3 :: x :: xs))) (.d (.int 4)) h = some (.d x, h) := e_ixL (G.atI_ok (by decide) rfl)
theorem e_ixT_4 {a0 a1 a2 a3 x : PyData} {xs : List PyData} {h : MH} : mIx (.d (.tuple (a0 :: a1 :: a2 :: a3 :: x :: xs))) (.d (.int 4)) h = some (.d x, h) := e_ixT (G.atI_ok (by decide) rfl)
theorem e_ixL_5 {a0 a1 a2 a3 a4 x : PyData} {xs : List PyData} {h : MH} : mIx (.d (.list (a0 :: a1 :: a2 :: a3 :: a4 :: x :: xs))) (.d (.int 5)) h = some (.d x, h) := e_ixL (G.atI_ok (by decide) rfl)
theorem e_ixT_5 {a0 a1 a2 a3 a4 x : PyData} {xs : List PyData} {h : MH} : mIx (.d (.tuple (a0 :: a1 :: a2 :: a3 :: a4 :: x :: xs))) (.d (.int 5)) h = some (.d x, h) := e_ixT (G.atI_ok (by decide) rfl)
theorem e_ixL_6 {a0 a1 a2 a3 a4 a5 x : PyData} {xs : List PyData} {h : MH} : mIx (.d (.list (a0 :: a1 :: a2 :: a3 :: a4 :: a5 :: x :: xs))) (.d (.int 6)) h = some (.d x, h) := e_ixL (G.atI_ok (by decide) rfl)
theorem e_ixT_6 {a0 a1 a2 a3 a4 a5 x : PyData} {xs : List PyData} {h : MH} : mIx (.d (.tuple (a0 :: a1 :: a2 :: a3 :: a4 :: a5 :: x :: xs))) (.d (.int 6)) h = some (.d x, h) := e_ixT (G.atI_ok (by decide) rfl)
theorem e_ixL_7 {a0 a1 a2 a3 a4 a5 a6 x : PyData} {xs : List PyData} {h : MH} : mIx (.d (.list (a0 :: a1 :: a2 :: a3 :: a4 :: a5 :: a6 :: x :: xs))) (.d (.int 7)) h = some (.d x, h) := e_ixL (G.atI_ok (by decide) rfl)
theorem e_ixT_7 {a0 a1 a2 a3 a4 a5 a6 x : PyData} {xs : List PyData} {h : MH} : mIx (.d (.tuple (a0 :: a1 :: a2 :: a3 :: a4 :: a5 :: a6 :: x :: xs))) (.d (.int 7)) h = some (.d x, h) := e_ixT (G.atI_ok (by decide) rfl)
theorem e_ixL_8 {a0 a1 a2 a3 a4 a5 a6 a7 x : PyData} {xs : List PyData} {h : MH} : mIx (.d (.list (a0 :: a1 :: a2 :: a3 :: a4 :: a5 :: a6 :: a7 :: x :: xs))) (.d (.int 8)) h = some (.d x, h) := e_ixL (G.atI_ok (by decide) rfl)
theorem e_ixT_8 {a0 a1 a2 a3 a4 a5 a6 a7 x : PyData} {xs : List PyData} {h : MH} : mIx (.d (.tuple (a0 :: a1 :: a2 :: a3 :: a4 :: a5 :: a6 :: a7 :: x :: xs))) (.d (.int 8)) h = some (.d x, h) := e_ixT (G.atI_ok (by decide) rfl)
end M
namespace L2
open PySem PySem.Spec PyProof.Rows
/-! ### two dicts, equal or not -/
inductive HitsV (K : PySem.W.Frag) (H : Hp) (ls : List (Key × V)) : List (Key × V) → Bool → Prop
  | nil : HitsV K H ls [] true
  | miss {k : Key} {v : V} {r : List (Key × V)} : valV ls k = none → HitsV K H ls ((k, v) :: r) false
  | hit {k : Key} {v y : V} {r : List (Key × V)} {d e : PyData} {b : Bool} : valV ls k = some y → Dp K H v d → Dp K H y e → SeqAt.shaped d = true → SeqAt.shaped e = true → HitsV K H ls r b → HitsV K H ls ((k, v) :: r) (PyData.eqv d e && b)
def rDk (K : PySem.W.Frag) (neg : Bool) : R2 := fun x y H Q => ∃ (a b : Addr) (ks ls : List (Key × V)) (r : Bool), x = .ref a ∧ y = .ref b ∧ H a = some (.dK ks) ∧ H b = some (.dK ls) ∧ HitsV K H ls ks r ∧ Q (.bl (if neg = true then !((ks.length == ls.length) && r) else ((ks.length == ls.length) && r))) H
section
variable {X : Cx} {pins : List (Addr × Obj)} {σ : St} {H : Hp} {s : Shared}
theorem shaped_of {d : PyData} (h : SeqAt.shaped d = true) : d.canLay0 = true ∧ d.depth ≤ 64 := by
  unfold SeqAt.shaped at h
  simp only [Bool.and_eq_true, decide_eq_true_eq] at h
  omega
theorem hits_run2 (I : Inv X pins σ H s) {A : Around} (hu : A.units + 64 < cLine) {ls : List (Key × V)} {vb : List (Key × Value)} (rb : KV ls vb) {ks : List (Key × V)} {r : Bool} (h : HitsV X.K H ls ks r) : ∀ {va : List (Key × Value)}, KV ks va → PySem.W.KeqHits A s vb va r := by
  induction h with
  | nil => intro va k; cases k; exact .nil
  | @miss k0 v0 r0 hn =>
    intro va k
    cases k with
    | cons hq hr =>
      rename_i q _
      obtain ⟨q1, q2⟩ := q
      obtain ⟨e1, e2⟩ := hq
      cases e1
      have := rb.val k0
      rw [hn] at this
      refine .miss ?_
      cases hv : valueAt vb k0 with
      | none => rfl
      | some u => rw [hv] at this; cases this
  | @hit k0 v0 y0 r0 d0 e0 b0 hy hd he sd se _ ih =>
    intro va k
    cases k with
    | cons hq hr =>
      rename_i q _
      obtain ⟨q1, q2⟩ := q
      obtain ⟨e1, e2⟩ := hq
      cases e1
      have := rb.val k0
      rw [hy] at this
      cases hv : valueAt vb k0 with
      | none => rw [hv] at this; cases this
      | some u =>
        rw [hv] at this
        obtain ⟨as, r1⟩ := Dp.reads I _ _ _ hd e2
        have ru : RelV y0 u := by
          first | exact this | (cases this; assumption)
        obtain ⟨bs, r2⟩ := Dp.reads I _ _ _ he ru
        exact .hit hv (PySem.SeqAt.eqAt_reads _ _ A s _ _ as bs r1 r2 (shaped_of sd).1 (shaped_of se).1 (by have := (shaped_of sd).2; omega)) (ih hr)
end
theorem op_eqDk {X : Cx} (hu : X.A.units + 65 < cLine) : OpR X (compareOp .Eq) (rDk X.K false) := by
  intro pins s σ H x y v u Q I rx ry h
  obtain ⟨a, b, ks, ls, r, rfl, rfl, ea, eb, hp, q⟩ := h
  cases rx
  cases ry
  obtain ⟨_, ya, va, ra, da⟩ := dk_of I.hok ea
  obtain ⟨_, yb, vb, rb, db⟩ := dk_of I.hok eb
  refine PySem.W.keq_eq (knd := mixKind X.prog X.w) (r := r) ya yb da db (by omega) (fun _ => hits_run2 I (by show X.A.units + 1 + 64 < cLine; omega) rb hp ra) ?_
  rw [← ra.length, ← rb.length]
  exact ⟨.bl _, H, I, rfl, q⟩
theorem op_neDk {X : Cx} (hu : X.A.units + 65 < cLine) : OpR X (compareOp .NotEq) (rDk X.K true) := by
  intro pins s σ H x y v u Q I rx ry h
  obtain ⟨a, b, ks, ls, r, rfl, rfl, ea, eb, hp, q⟩ := h
  cases rx
  cases ry
  obtain ⟨_, ya, va, ra, da⟩ := dk_of I.hok ea
  obtain ⟨_, yb, vb, rb, db⟩ := dk_of I.hok eb
  refine PySem.W.keq_ne (knd := mixKind X.prog X.w) (r := r) ya yb da db (by omega) (fun _ => hits_run2 I (by show X.A.units + 1 + 64 < cLine; omega) rb hp ra) ?_
  rw [← ra.length, ← rb.length]
  exact ⟨.bl _, H, I, rfl, q⟩
end L2
namespace M
open PySem PySem.Spec PyProof.Rows L2
open Evl (Ex ex_rd ex_l ex_t rMax2)
open G (dpx dpax dpa_len dpa_get dpa_app dpa_set ex_none ti li)
section
variable {K : PySem.W.Frag} {w : Wd} {h : MH}
def hitsM (h : MH) (ls : List (Key × MV)) : List (Key × MV) → Option Bool
  | [] => some true
  | (k, x) :: r => match valG ls k with
    | none => some false
    | some y => (reify 6 h x).bind fun d => (reify 6 h y).bind fun e => if SeqAt.shaped d = true ∧ SeqAt.shaped e = true then (hitsM h ls r).map fun b => PyData.eqv d e && b else none
theorem hitsM_ok (r : Rel K w h) {ls : List (Key × V)} {lw : List (Key × MV)} (hl : KRep K w.ι w.C ls lw) : ∀ {ks : List (Key × V)} {kw : List (Key × MV)} {b : Bool}, KRep K w.ι w.C ks kw → hitsM h lw kw = some b → HitsV K w.H ls ks b
  | [], [], b, _, e => by cases e; exact .nil
  | [], _ :: _, _, hk, _ => by have := hk.len; cases this
  | _ :: _, [], _, hk, _ => by have := hk.len; cases this
  | (k, v) :: ks, (k', x) :: kw, b, hk, e => by
    obtain ⟨h1, h2, h3⟩ := hk.cases
    cases h1
    rw [hitsM] at e
    cases hv : valG lw k with
    | none =>
      rw [hv] at e
      cases e
      exact .miss (hl.valN hv)
    | some y =>
      simp only [hv] at e
      obtain ⟨d, e1, e⟩ := bind_of e
      obtain ⟨d', e2, e⟩ := bind_of e
      split at e
      · rename_i hs
        obtain ⟨c, e3, e⟩ := map_of e
        subst e
        obtain ⟨u, g1, g2⟩ := hl.valS hv
        exact .hit g1 (dpx vis_ex (reify_ok r 6 h2 e1)) (dpx vis_ex (reify_ok r 6 g2 e2)) hs.1 hs.2 (hitsM_ok r hl h3 e3)
      · cases e
def mDk (neg : Bool) : MO2 := fun a b h => (asK h a).bind fun s => (asK h b).bind fun t => (hitsM h t.2 s.2).map fun r => (.d (.bool (if neg = true then !((s.2.length == t.2.length) && r) else ((s.2.length == t.2.length) && r))), h)
theorem sr_dk {neg : Bool} : SimR K (rDk K neg) (mDk neg) := fun w h x y a b v h' rl rx ry e Q q => by
  obtain ⟨⟨n1, k1⟩, e1, e⟩ := bind_of e
  obtain ⟨⟨n2, k2⟩, e2, e⟩ := bind_of e
  obtain ⟨r, e3, e⟩ := map_of e
  cases e
  obtain ⟨ad, kvs, rfl, g1, g2, g3⟩ := asK_ok rl rx e1
  obtain ⟨ad', kvs', rfl, g1', g2', g3'⟩ := asK_ok rl ry e2
  refine ⟨ad, ad', kvs, kvs', r, rfl, rfl, g2, g2', hitsM_ok rl g3' g3 e3, ?_⟩
  rw [g3.len, g3'.len]
  exact q w _ (.refl _) rl (.d (.bl _))
/-- d.setdefault(k, x) -/
def mDSetd (md mk mx : ME) : ME := fun env h => (md env h).bind fun d => (asK d.2 d.1).bind fun _ => (mk env d.2).bind fun k => (mx env k.2).bind fun x => (asK x.2 d.1).bind fun t => (keyOf k.1).bind fun y => if t.2.length < 100000 then (match valG t.2 y with
  | some v => some (v, x.2)
  | none => some (x.1, x.2.set t.1 (.dct (putG t.2 y x.1)))) else none
theorem sm_dsetd {td ty tx : TE} {md mk mx : ME} (hd : SimE K td md) (hk : SimE K ty mk) (hx : SimE K tx mx) : SimE K (tDSetd td ty tx) (mDSetd md mk mx) := fun w h σ env v h' rl re e Q q => by
  obtain ⟨⟨a, h1⟩, e1, e⟩ := bind_of e
  obtain ⟨⟨n0, kws0⟩, e0, e⟩ := bind_of e
  obtain ⟨⟨b, h2⟩, e2, e⟩ := bind_of e
  obtain ⟨⟨c, h3⟩, e3, e⟩ := bind_of e
  obtain ⟨⟨n, kws⟩, e4, e⟩ := bind_of e
  obtain ⟨y, e5, e⟩ := bind_of e
  simp only at e
  split at e
  · rename_i hz
    refine hd w h σ env a h1 rl re e1 _ fun w1 u1 s1 r1 x1 => ?_
    obtain ⟨ad0, kvs0, rfl, g01, g02, g03⟩ := asK_ok r1 x1 e0
    refine ⟨ad0, rfl, .inl ⟨kvs0, .inl g02⟩, hk w1 h1 σ env b h2 r1 (re.up s1) e2 _ fun w2 u2 s2 r2 x2 => hx w2 h2 σ env c _ r2 ((re.up s1).up s2) e3 _ fun w3 u3 s3 r3 x3 => ?_⟩
    obtain ⟨ad, kvs, ea, g1, g2, g3⟩ := asK_ok r3 ((x1.up s2).up s3) e4
    cases ea
    have := keyOf_ok (x2.up s3) e5
    subst this
    have ss := (s1.trans s2).trans s3
    refine ⟨kvs, y, g2, rfl, by rw [g3.len]; exact Nat.lt_of_lt_of_le hz sl_100000, fun vv hv => ?_, fun hv => ?_⟩
    · cases hg : valG kws y with
      | none => rw [g3.valN hg] at hv; cases hv
      | some x =>
        simp only [hg] at e
        cases e
        obtain ⟨u, f1, f2⟩ := g3.valS hg
        rw [hv] at f1
        cases f1
        exact q w3 _ ss r3 f2
    · cases hg : valG kws y with
      | some x => obtain ⟨u, f1, f2⟩ := g3.valS hg; rw [hv] at f1; cases f1
      | none =>
        simp only [hg] at e
        cases e
        have mg := g3.put x3 y
        obtain ⟨s4, r4⟩ := write_ok (o := .dK (putK kvs y u3)) r3 g1 (.dct mg.1 mg.2)
        exact q (w3.write ad0 _) u3 (ss.trans s4) r4 (x3.up s4)
  · cases e
/-- xs[::-1] -/
def mRevL (me : ME) : MA := fun env h => (me env h).bind fun r => if isT r.1 = false then (itemsOf r.2 r.1).map fun xs => (xs.reverse, r.2) else none
theorem RepA.rev {ι : List Addr} {C : Hp} : ∀ {vs : List V} {xs : List MV}, RepA K ι C vs xs → RepA K ι C vs.reverse xs.reverse
  | _, _, .nil => .nil
  | _, _, .cons r t => by
    rw [List.reverse_cons, List.reverse_cons]
    exact (RepA.rev t).app (.cons r .nil)
theorem sm_revL {te : TE} {me : ME} (h1 : SimE K te me) : SimF K (tRevL K te) (mRevL me) := fun w h σ env v h' rl re e Q q => by
  obtain ⟨⟨a, hh1⟩, e1, e⟩ := bind_of e
  simp only at e
  split at e
  · rename_i ht
    obtain ⟨xs, e4, e⟩ := map_of e
    cases e
    refine h1 w h σ env a _ rl re e1 _ fun w1 x s1 r1 x1 => ?_
    obtain ⟨p, vs, rfl, hs, rv⟩ := items_L r1 x1 e4 ht
    refine ⟨p, vs, rfl, hs, fun l' hl => ?_⟩
    obtain ⟨s4, r4⟩ := fresh_ok (o := .lst vs.reverse) r1 hl
    exact q _ l' _ (s1.trans s4) r4 (by
      cases z : w.H l' with
      | none => rfl
      | some o => exact absurd hl (s1.kp l' (by rw [z]; exact fun q => nomatch q))) upd_same (r1.notin hl) (r1.cnone hl) rv.rev
  · cases e
/-- xs.pop(k) -/
def mPopAt (mo mi : ME) : ME := fun env h => (mo env h).bind fun o => (asL o.2 o.1).bind fun _ => (mi env o.2).bind fun i => (asL i.2 o.1).bind fun l => (asI i.1).bind fun k => if 0 ≤ k ∧ k < l.2.length then (l.2[k.toNat]?).map fun x => (x, i.2.set l.1 (.lst (l.2.eraseIdx k.toNat))) else none
theorem RepA.erase {ι : List Addr} {C : Hp} : ∀ {vs : List V} {xs : List MV} (n : Nat), RepA K ι C vs xs → RepA K ι C (vs.eraseIdx n) (xs.eraseIdx n)
  | _, _, _, .nil => .nil
  | _, _, 0, .cons _ t => t
  | _, _, n + 1, .cons r t => .cons r (RepA.erase n t)
end
end M
namespace M
open PySem PySem.Spec PyProof.Rows L2
open G (ti li)
/-! ### kinds of data that == tells apart -/
structure Enc {α : Type} [DecidableEq α] (f : α → PyData) (n : Nat) : Prop where
  eq : ∀ a b, PyData.eqv (f a) (f b) = decide (a = b)
  lay : ∀ a, (f a).canLay0 = true
  dep : ∀ a, (f a).depth ≤ n
section
variable {α β γ δ : Type} [DecidableEq α] [DecidableEq β] [DecidableEq γ] [DecidableEq δ] {f : α → PyData} {g : β → PyData} {k : γ → PyData} {l : δ → PyData} {n m p q : Nat}
theorem Enc.mono (E : Enc f n) (h : n ≤ m) : Enc f m := ⟨E.eq, E.lay, fun a => Nat.le_trans (E.dep a) h⟩
theorem Enc.int : Enc PyData.int 0 := ⟨G.eqv_int, fun _ => by rw [PyData.canLay0], fun _ => by rw [PyData.depth]; exact Nat.le_refl _⟩
theorem Enc.bool : Enc PyData.bool 0 := ⟨G.eqv_bool, fun _ => by rw [PyData.canLay0], fun _ => by rw [PyData.depth]; exact Nat.le_refl _⟩
theorem Enc.sh (E : Enc f n) (a : α) (h : n ≤ 64 := by decide) : SeqAt.shaped (f a) = true := by
  unfold SeqAt.shaped
  rw [E.lay a, Bool.true_and, decide_eq_true_iff]
  exact Nat.le_trans (E.dep a) h
theorem Enc.comap (E : Enc f n) (i : β → α) (hi : ∀ a b, i a = i b → a = b) : Enc (fun b => f (i b)) n :=
  ⟨fun a b => by rw [E.eq]; exact decide_eq_decide.mpr ⟨hi a b, fun e => by rw [e]⟩, fun b => E.lay _, fun b => E.dep _⟩
theorem Enc.pair (E : Enc f n) (F : Enc g m) : Enc (fun x : α × β => .tuple [f x.1, g x.2]) (max n m + 1) := by
  refine ⟨fun a b => ?_, fun a => ?_, fun a => ?_⟩
  · rw [PyData.eqv, PyData.eqvAll, PyData.eqvAll, PyData.eqvAll, E.eq, F.eq, Bool.and_true, ← Bool.decide_and]
    exact decide_eq_decide.mpr Prod.ext_iff.symm
  · simp only [PyData.canLay0, PyData.canLayAll0, E.lay, F.lay, Bool.and_true]
  · have := E.dep a.1
    have := F.dep a.2
    simp only [PyData.depth, PyData.depthAll]
    omega
theorem Enc.trip (E : Enc f n) (F : Enc g m) (I : Enc k p) : Enc (fun x : α × β × γ => .tuple [f x.1, g x.2.1, k x.2.2]) (max n (max m p) + 1) := by
  refine ⟨fun a b => ?_, fun a => ?_, fun a => ?_⟩
  · rw [PyData.eqv, PyData.eqvAll, PyData.eqvAll, PyData.eqvAll, PyData.eqvAll, E.eq, F.eq, I.eq, Bool.and_true, ← Bool.decide_and, ← Bool.decide_and]
    exact decide_eq_decide.mpr (by rw [Prod.ext_iff, Prod.ext_iff])
  · simp only [PyData.canLay0, PyData.canLayAll0, E.lay, F.lay, I.lay, Bool.and_true]
  · have := E.dep a.1
    have := F.dep a.2.1
    have := I.dep a.2.2
    simp only [PyData.depth, PyData.depthAll]
    omega
theorem Enc.quad (E : Enc f n) (F : Enc g m) (I : Enc k p) (J : Enc l q) : Enc (fun x : α × β × γ × δ => .tuple [f x.1, g x.2.1, k x.2.2.1, l x.2.2.2]) (max (max n m) (max p q) + 1) := by
  refine ⟨fun a b => ?_, fun a => ?_, fun a => ?_⟩
  · rw [PyData.eqv, PyData.eqvAll, PyData.eqvAll, PyData.eqvAll, PyData.eqvAll, PyData.eqvAll, E.eq, F.eq, I.eq, J.eq, Bool.and_true, ← Bool.decide_and, ← Bool.decide_and, ← Bool.decide_and]
    exact decide_eq_decide.mpr (by rw [Prod.ext_iff, Prod.ext_iff, Prod.ext_iff])
  · simp only [PyData.canLay0, PyData.canLayAll0, E.lay, F.lay, I.lay, J.lay, Bool.and_true]
  · have := E.dep a.1
    have := F.dep a.2.1
    have := I.dep a.2.2.1
    have := J.dep a.2.2.2
    simp only [PyData.depth, PyData.depthAll]
    omega
theorem Enc.eqAll (E : Enc f n) : ∀ xs ys : List α, PyData.eqvAll (xs.map f) (ys.map f) = decide (xs = ys)
  | [], [] => by simp [PyData.eqvAll]
  | [], _ :: _ => by simp [PyData.eqvAll]
  | _ :: _, [] => by simp [PyData.eqvAll]
  | x :: xs, y :: ys => by
    rw [List.map_cons, List.map_cons, PyData.eqvAll, E.eq, E.eqAll xs ys, ← Bool.decide_and]
    exact decide_eq_decide.mpr (by simp)
theorem Enc.layAll (E : Enc f n) : ∀ xs : List α, PyData.canLayAll0 (xs.map f) = true
  | [] => by simp [PyData.canLayAll0]
  | x :: xs => by rw [List.map_cons, PyData.canLayAll0, E.lay, E.layAll xs]; rfl
theorem Enc.depAll (E : Enc f n) : ∀ xs : List α, PyData.depthAll (xs.map f) ≤ n
  | [] => by simp [PyData.depthAll]
  | x :: xs => by
    rw [List.map_cons, PyData.depthAll]
    have := E.depAll xs
    have := E.dep x
    omega
theorem Enc.list (E : Enc f n) : Enc (fun xs : List α => .list (xs.map f)) (n + 1) :=
  ⟨fun a b => by rw [PyData.eqv]; exact E.eqAll a b, fun a => by rw [PyData.canLay0]; exact E.layAll a, fun a => by rw [PyData.depth]; exact Nat.succ_le_succ (E.depAll a)⟩
theorem Enc.tup (E : Enc f n) : Enc (fun xs : List α => .tuple (xs.map f)) (n + 1) :=
  ⟨fun a b => by rw [PyData.eqv]; exact E.eqAll a b, fun a => by rw [PyData.canLay0]; exact E.layAll a, fun a => by rw [PyData.depth]; exact Nat.succ_le_succ (E.depAll a)⟩
theorem e_eqE (E : Enc f n) {neg : Bool} {a b : α} {h : MH} (hn : n ≤ 64 := by decide) : mEqD neg (.d (f a)) (.d (f b)) h = some (.d (.bool (if neg = true then !decide (a = b) else decide (a = b))), h) := by
  rw [e_eqD (E.sh a hn) (E.sh b hn), E.eq]
theorem e_eqR (E : Enc f n) {neg : Bool} {a b : α} {h : MH} {x y : MV} (hx : reify 6 h x = some (f a)) (hy : reify 6 h y = some (f b)) (hn : n ≤ 64 := by decide) : mEqD neg x y h = some (.d (.bool (if neg = true then !decide (a = b) else decide (a = b))), h) := by
  unfold mEqD
  rw [hx, hy, Option.bind_some, Option.bind_some, if_pos ⟨E.sh a hn, E.sh b hn⟩, E.eq]
theorem Enc.any (E : Enc f n) (a : α) : ∀ bs : List α, ((bs.map f).any fun z => PyData.eqv z (f a)) = decide (a ∈ bs)
  | [] => by simp
  | b :: bs => by
    rw [List.map_cons, List.any_cons, E.any a bs, E.eq, ← Bool.decide_or]
    exact decide_eq_decide.mpr (by rw [List.mem_cons]; exact or_congr ⟨Eq.symm, Eq.symm⟩ Iff.rfl)
theorem e_inR (E : Enc f n) {neg : Bool} {a : α} {bs : List α} {h : MH} {x y : MV} (hx : reify 6 h x = some (f a)) (hy : reify 6 h y = some (.list (bs.map f))) (hn : n ≤ 63 := by decide) : mInD neg x y h = some (.d (.bool (if neg = true then !decide (a ∈ bs) else decide (a ∈ bs))), h) := by
  unfold mInD
  rw [hx, hy, Option.bind_some, Option.bind_some]
  show (some (bs.map f)).bind _ = _
  rw [Option.bind_some, if_pos ⟨E.sh a (by omega), E.list.sh bs (by omega)⟩, E.any]
/-! ### what is read off the heap -/
theorem re_map (f : α → PyData) (k : Nat) (h : MH) (xs : List α) : mapO (reify k h) (xs.map fun x => .d (f x)) = some (xs.map f) := by
  rw [show (xs.map fun x => MV.d (f x)) = (xs.map f).map .d by rw [List.map_map]; rfl]
  exact mapO_reify_d _ _ _
theorem re_lst (f : α → PyData) {k : Nat} {h : MH} {n : Nat} {xs : List α} (hn : h[n]? = some (.lst (xs.map fun x => .d (f x)))) : reify (k + 1) h (.ref n) = some (.list (xs.map f)) := re_ref hn (re_map f _ _ _)
theorem mapO_map {α β : Type} (f : α → Option β) (g : α → β) (xs : List α) (h : ∀ x ∈ xs, f x = some (g x)) : mapO f xs = some (xs.map g) := mapO_some h
/-- refs of lists -/
theorem re_refs (f : α → PyData) {k : Nat} {h : MH} : ∀ {rs : List Nat} {xss : List (List α)}, rs.length = xss.length → (∀ (i r : Nat) (xs : List α), rs[i]? = some r → xss[i]? = some xs → h[r]? = some (.lst (xs.map fun x => .d (f x)))) → mapO (reify (k + 1) h) (rs.map MV.ref) = some (xss.map fun xs => .list (xs.map f))
  | [], [], _, _ => rfl
  | [], _ :: _, e, _ => by cases e
  | _ :: _, [], e, _ => by cases e
  | r :: rs, xs :: xss, e, hh => by
    rw [List.map_cons, mapO, re_lst f (hh 0 r xs rfl rfl), re_refs f (by simpa using e) (fun i r' xs' h1 h2 => hh (i + 1) r' xs' (by simpa using h1) (by simpa using h2))]
    rfl
end
/-! ### more of what things give -/
theorem flat_rep (k : Nat) (x : PyData) : (List.replicate k [x]).flatten = List.replicate k x := by
  induction k with
  | zero => rfl
  | succ k ih => rw [List.replicate_succ, List.flatten_cons, ih]; rfl
theorem flat_repM (k : Nat) (x : MV) : (List.replicate k [x]).flatten = List.replicate k x := by
  induction k with
  | zero => rfl
  | succ k ih => rw [List.replicate_succ, List.flatten_cons, ih]; rfl
theorem e_liftR {f : List PyData → Option PyData} {xs : List MV} {h : MH} {ds : List PyData} {r : PyData} (ha : allD xs = none) (e : mapO (reify 6 h) xs = some ds) (hf : f ds = some r) (hn : noL r = true) : liftD f xs h = some (.d r, h) := by
  unfold liftD
  rw [ha]
  simp only [e, Option.bind_some, hf, hn, if_true]
theorem kk_bb : kitB "bool" "bool" = some true := by decide +kernel
theorem e_isiBB {b : Bool} {h : MH} {me : ME} {env : Env} (e : me env h = some (.d (.bool b), h)) : mIsi "bool" me env h = some (.d (.bool true), h) := by
  unfold mIsi
  rw [e, Option.bind_some]
  show (kitB "bool" "bool").map _ = _
  rw [kk_bb]; rfl
theorem allD_dI (xs : List Int) : allD (xs.map dI) = some (xs.map .int) := by
  rw [show xs.map dI = (xs.map PyData.int).map .d by rw [List.map_map]; rfl]
  exact allD_map _
theorem mkTup_dI (xs : List Int) : mkTup (xs.map dI) = .d (ti xs) := by unfold mkTup; rw [allD_dI]
theorem tupR {h : MH} {n : Nat} {xs : List Int} (hn : h[n]? = some (.lst (xs.map dI))) : mTupOf [.ref n] h = some (.d (ti xs), h) := by
  unfold mTupOf
  rw [e_arg1, Option.bind_some, e_itR hn, Option.map_some, e_isTR, mkTup_dI]; rfl
theorem ixR_dI {h : MH} {n : Nat} {xs : List Int} {i : Int} (hn : h[n]? = some (.lst (xs.map dI))) (h0 : 0 ≤ i) (h1 : i < xs.length) : mIx (.ref n) (.d (.int i)) h = some (dI (xs.getD i.toNat 0), h) := e_ixR hn (by rw [atI_map, atI_get h0 h1 0]; rfl)
theorem set_getD (xs : List Int) (j : Nat) (v : Int) (k : Nat) : (xs.set j v).getD k 0 = if j = k ∧ j < xs.length then v else xs.getD k 0 := by
  simp only [List.getD_eq_getElem?_getD, List.getElem?_set]
  by_cases e : j = k
  · subst e
    by_cases hl : j < xs.length
    · simp [hl]
    · simp [hl]
  · simp [e]
theorem map_range_get (xs : List Int) : (List.range xs.length).map (fun k => xs.getD k 0) = xs := by
  refine List.ext_getElem? fun k => ?_
  by_cases hk : k < xs.length
  · simp [hk, List.getD_eq_getElem?_getD]
  · rw [List.getElem?_eq_none (by simp; omega), List.getElem?_eq_none (by omega)]
/-! ### < over pairs of numbers -/
abbrev kD (k : Int × Int) : PyData := .tuple [.int k.1, .int k.2]
def kLt (a b : Int × Int) : Bool := decide (a.1 < b.1) || (decide (a.1 = b.1) && decide (a.2 < b.2))
theorem lt_kD (a b : Int × Int) : PySem.W.dataLt (kD a) (kD b) = kLt a b := by
  rw [PySem.W.dataLt_tuple]
  by_cases h1 : a.1 = b.1
  · rw [PySem.W.dataLt_all_yes (by simp [PySem.W.alike]) (by rw [G.eqv_int]; exact decide_eq_true h1)]
    by_cases h2 : a.2 = b.2
    · rw [PySem.W.dataLt_all_yes (by simp [PySem.W.alike]) (by rw [G.eqv_int]; exact decide_eq_true h2)]
      simp only [PySem.W.keyToksAll, kLt, h1, h2, Int.lt_irrefl, decide_false, Bool.and_false, Bool.or_false]
      exact PyProof.Rows.lex_self (O := PyProof.Rows.itemOrd) _ _ _
    · rw [PySem.W.dataLt_all_no (by simp [PySem.W.alike]) (by rw [G.eqv_int]; exact decide_eq_false h2), PySem.W.dataLt_int]
      simp [kLt, h1]
  · rw [PySem.W.dataLt_all_no (by simp [PySem.W.alike]) (by rw [G.eqv_int]; exact decide_eq_false h1), PySem.W.dataLt_int]
    simp [kLt, h1]
theorem al_kD (a b : Int × Int) : PySem.W.alike (kD a) (kD b) = true := by simp [PySem.W.alike, PySem.W.alikeAll]
theorem de_kD (a : Int × Int) : (kD a).depth = 1 := by simp [PyData.depth, PyData.depthAll]
theorem e_cmpK {fn : PyData → PyData → Bool} {a b : Int × Int} {h : MH} : mCmp fn (.d (kD a)) (.d (kD b)) h = some (.d (.bool (fn (kD a) (kD b))), h) := by
  unfold mCmp
  rw [reify_d, reify_d, Option.bind_some, Option.bind_some, if_pos ⟨al_kD a b, by simp, by rw [de_kD, de_kD]; decide⟩]
theorem e_gtK {a b : Int × Int} {h : MH} : mCmp fGt (.d (kD a)) (.d (kD b)) h = some (.d (.bool (kLt b a)), h) := by rw [e_cmpK]; unfold fGt; rw [lt_kD]
theorem e_leK {a b : Int × Int} {h : MH} : mCmp fLe (.d (kD a)) (.d (kD b)) h = some (.d (.bool (!kLt b a)), h) := by rw [e_cmpK]; unfold fLe; rw [lt_kD]
theorem e_geK {a b : Int × Int} {h : MH} : mCmp fGe (.d (kD a)) (.d (kD b)) h = some (.d (.bool (!kLt a b)), h) := by rw [e_cmpK]; unfold fGe; rw [lt_kD]
theorem Enc.k : Enc kD 1 := Enc.int.pair Enc.int
/-! ### comprehensions that change the heap -/
theorem lc_inv {α : Type} {g : MG} {me : ME} {env : Env} (φ : α → MV) (Inv : Nat → List MV → MH → Prop) (ks : List α)
    (step : ∀ i k xs h, ks[i]? = some k → Inv i xs h → ∃ x h', (g (φ k) env).bind (fun e => me e h) = some (x, h') ∧ Inv (i + 1) (xs ++ [x]) h') :
    ∀ (i : Nat) (xs : List MV) (h : MH), i ≤ ks.length → Inv i xs h → ∃ ys h', lcLoop g mYes me [] env ((ks.drop i).map φ) h = some (ys, h') ∧ Inv ks.length (xs ++ ys) h' := by
  intro i
  generalize hn : ks.length - i = n
  induction n generalizing i with
  | zero =>
    intro xs h hi inv
    have : i = ks.length := by omega
    subst this
    rw [List.drop_length, List.map_nil, lcLoop, srcIf_nil]
    exact ⟨[], h, rfl, by rw [List.append_nil]; exact inv⟩
  | succ n ih =>
    intro xs h hi inv
    have hlt : i < ks.length := by omega
    rw [List.drop_eq_getElem_cons hlt, List.map_cons, lcLoop, srcIf_nil]
    obtain ⟨x, h1, g1, g2⟩ := step i ks[i] xs h (by simp [hlt]) inv
    obtain ⟨ys, h2, g3, g4⟩ := ih (i + 1) (by omega) (xs ++ [x]) h1 hlt g2
    refine ⟨x :: ys, h2, ?_, by rw [List.append_assoc] at g4; exact g4⟩
    obtain ⟨e', e1, e2⟩ := bind_of g1
    rw [e1, Option.bind_some]
    show (some (true, h)).bind _ = _
    rw [Option.bind_some]
    simp only [if_true]
    rw [e2, Option.bind_some, g3]
    rfl
theorem mLc_inv {α : Type} {mi : MI} {g : MG} {me : ME} {vs : List Nat} {env : Env} {h h1 : MH} (ks : List α) (φ : α → MV) (hi : mi env h = some (([], ks.map φ), h1)) (Inv : Nat → List MV → MH → Prop) (h0 : Inv 0 [] h1)
    (step : ∀ i k xs h, ks[i]? = some k → Inv i xs h → ∃ x h', (g (φ k) (wipeM env vs)).bind (fun e => me e h) = some (x, h') ∧ Inv (i + 1) (xs ++ [x]) h') (hz : ∀ xs h, Inv ks.length xs h → xs.length ≤ 100000) : ∃ ys h', mLc mi g mYes me vs env h = some (ys, h') ∧ Inv ks.length ys h' := by
  obtain ⟨ys, h', e, iv⟩ := lc_inv φ Inv ks step 0 [] h1 (Nat.zero_le _) h0
  refine ⟨ys, h', ?_, iv⟩
  unfold mLc
  rw [hi, Option.bind_some]
  show (lcLoop g mYes me [] (wipeM env vs) (ks.map φ) h1).bind _ = _
  rw [List.drop_zero] at e
  rw [e, Option.bind_some, if_pos (show ys.length ≤ 100000 from hz ys h' iv)]
theorem e_nilR {α : Type} [DecidableEq α] {f : α → PyData} {n : Nat} (E : Enc f n) {neg : Bool} {a : List α} {h : MH} {x : MV} (hx : reify 6 h x = some (.list (a.map f))) (hn : n ≤ 63 := by decide) : mEqD neg x (.d (.list [])) h = some (.d (.bool (if neg = true then !decide (a = []) else decide (a = []))), h) :=
  e_eqR E.list (a := a) (b := []) hx (reify_d _ _ _) (by omega)
/-! ### loops over a list of one's own -/
theorem srcIf_ok {α : Type} {src : List (Nat × List MV)} {h : MH} {o : Option α} (e : ∀ s ∈ src, h[s.1]? = some (.lst s.2)) : srcIf src h o = o := by
  unfold srcIf
  rw [if_pos e]
theorem lc_invS {α : Type} {g : MG} {me : ME} {env : Env} {src : List (Nat × List MV)} (φ : α → MV) (Inv : Nat → List MV → MH → Prop) (ks : List α) (hs : ∀ i xs h, Inv i xs h → ∀ s ∈ src, h[s.1]? = some (.lst s.2))
    (step : ∀ i k xs h, ks[i]? = some k → Inv i xs h → ∃ x h', (g (φ k) env).bind (fun e => me e h) = some (x, h') ∧ Inv (i + 1) (xs ++ [x]) h') :
    ∀ (i : Nat) (xs : List MV) (h : MH), i ≤ ks.length → Inv i xs h → ∃ ys h', lcLoop g mYes me src env ((ks.drop i).map φ) h = some (ys, h') ∧ Inv ks.length (xs ++ ys) h' := by
  intro i
  generalize hn : ks.length - i = n
  induction n generalizing i with
  | zero =>
    intro xs h hi inv
    have : i = ks.length := by omega
    subst this
    rw [List.drop_length, List.map_nil, lcLoop, srcIf_ok (hs _ _ _ inv)]
    exact ⟨[], h, rfl, by rw [List.append_nil]; exact inv⟩
  | succ n ih =>
    intro xs h hi inv
    have hlt : i < ks.length := by omega
    rw [List.drop_eq_getElem_cons hlt, List.map_cons, lcLoop, srcIf_ok (hs _ _ _ inv)]
    obtain ⟨x, h1, g1, g2⟩ := step i ks[i] xs h (by simp [hlt]) inv
    obtain ⟨ys, h2, g3, g4⟩ := ih (i + 1) (by omega) (xs ++ [x]) h1 hlt g2
    refine ⟨x :: ys, h2, ?_, by rw [List.append_assoc] at g4; exact g4⟩
    obtain ⟨e', e1, e2⟩ := bind_of g1
    rw [e1, Option.bind_some]
    show (some (true, h)).bind _ = _
    rw [Option.bind_some]
    simp only [if_true]
    rw [e2, Option.bind_some, g3]
    rfl
theorem mLc_invS {α : Type} {mi : MI} {g : MG} {me : ME} {vs : List Nat} {env : Env} {h h1 : MH} {src : List (Nat × List MV)} (ks : List α) (φ : α → MV) (hi : mi env h = some ((src, ks.map φ), h1)) (Inv : Nat → List MV → MH → Prop) (h0 : Inv 0 [] h1) (hs : ∀ i xs h, Inv i xs h → ∀ s ∈ src, h[s.1]? = some (.lst s.2))
    (step : ∀ i k xs h, ks[i]? = some k → Inv i xs h → ∃ x h', (g (φ k) (wipeM env vs)).bind (fun e => me e h) = some (x, h') ∧ Inv (i + 1) (xs ++ [x]) h') (hz : ∀ xs h, Inv ks.length xs h → xs.length ≤ 100000) : ∃ ys h', mLc mi g mYes me vs env h = some (ys, h') ∧ Inv ks.length ys h' := by
  obtain ⟨ys, h', e, iv⟩ := lc_invS φ Inv ks hs step 0 [] h1 (Nat.zero_le _) h0
  refine ⟨ys, h', ?_, iv⟩
  unfold mLc
  rw [hi, Option.bind_some]
  show (lcLoop g mYes me src (wipeM env vs) (ks.map φ) h1).bind _ = _
  rw [List.drop_zero] at e
  rw [e, Option.bind_some, if_pos (show ys.length ≤ 100000 from hz ys h' iv)]
theorem e_ref {me : ME} {env : Env} {h h1 : MH} {n : Nat} {xs : List MV} (e : me env h = some (.ref n, h1)) (hn : h1[n]? = some (.lst xs)) : mItL me env h = some (([(n, xs)], xs), h1) := by
  unfold mItL
  rw [e, Option.bind_some]
  show (if isT (.ref n) = false then (rowOf h1 (.ref n)).map _ else none) = _
  rw [if_pos (e_isTR (n := n)), rowOf, e_asL hn]
  rfl
theorem e_cmpI {fn : PyData → PyData → Bool} {i j : Int} {h : MH} : mCmp fn (.d (.int i)) (.d (.int j)) h = some (.d (.bool (fn (.int i) (.int j))), h) := by
  unfold mCmp
  rw [reify_d, reify_d, Option.bind_some, Option.bind_some, if_pos ⟨by simp [PySem.W.alike], by simp, by simp [PyData.depth]⟩]
theorem e_ltI {i j : Int} {h : MH} : mCmp fLt (.d (.int i)) (.d (.int j)) h = some (.d (.bool (decide (i < j))), h) := by rw [e_cmpI]; unfold fLt; rw [PySem.W.dataLt_int]
end M
namespace M
open PySem PySem.Spec PyProof.Rows L2
open Evl (Ex ex_rd ex_l ex_t rMax2)
open G (dpx dpax dpa_len dpa_get dpa_app dpa_set ex_none wipe_get wipe_eq wipe_wipe RD UD CD Ret rMin2 rInt1 rAbs rTupOf rListOf)
/-! ### sorted(xs), data -/
noncomputable def srtD (ds : List PyData) : List PyData := ds.mergeSort (PySem.W.dataLe false id)
def rSortDD (K : PySem.W.Frag) : List V → Hp → VK → Prop := fun vs H Q => ∃ (C : Hp) (a : Addr) (xs : List V) (ds : List PyData), vs = [.ref a] ∧ Ex C H ∧ SqL K H a xs ∧ DpAll K C xs ds ∧ PySem.W.AllAlike ds ∧ PySem.W.Sortable ds ∧ (∀ d ∈ ds, d.depth ≤ 60) ∧
  ∀ (ys : List V) (p : Addr), DpAll K C ys (srtD ds) → H p = none → Q (.ref p) (upd H p (.lst ys))
theorem hu66 {A : Around} {k : Nat} (hr : Room k A) : A.units + 62 < cLine := by have := hr.un; omega
section
variable {K : PySem.W.Frag} {C : Hp}
theorem each_zip {X : Cx} {R : Value → V × PyData → Prop} (hR : ∀ v x d, RelV x v → Dp X.K C x d → R v (x, d)) : ∀ {xs : List V} {vs : List Value} {ds : List PyData}, Vals xs vs → DpAll X.K C xs ds → PySem.W.EachIs R vs (xs.zip ds)
  | _, _, _, .nil, .nil => .nil
  | _, _, _, .cons r rs, .cons d ds => .cons (hR _ _ _ r d) (each_zip hR rs ds)
theorem each_out {R : Value → V × PyData → Prop} (hR : ∀ v b, R v b → RelV b.1 v ∧ Dp K C b.1 b.2) : ∀ {vs : List Value} {bs : List (V × PyData)}, PySem.W.EachIs R vs bs → Vals (bs.map (·.1)) vs ∧ DpAll K C (bs.map (·.1)) (bs.map (·.2))
  | _, _, .nil => ⟨.nil, .nil⟩
  | _, _, .cons r rs => ⟨.cons (hR _ _ r).1 (each_out hR rs).1, .cons (hR _ _ r).2 (each_out hR rs).2⟩
theorem zip_snd {α β : Type} : ∀ {xs : List α} {ys : List β}, xs.length = ys.length → (xs.zip ys).map (·.2) = ys
  | [], [], _ => rfl
  | _ :: xs, y :: ys, h => by rw [List.zip_cons_cons, List.map_cons, zip_snd (by simpa using h)]
theorem cr_sortedDD {X : Cx} (hu : X.A.units + 62 < cLine) : CallR X (.builtin "sorted") (rSortDD X.K) := by
  intro pins s σ H vs us Q I r h
  obtain ⟨C, a, xs, ds, rfl, ex, hs, hd, ha, hk, hz, q⟩ := h
  obtain ⟨its, rv, hl, hlen⟩ := I.list hs
  rw [Vals.ref1 r]
  have hxd : xs.length = ds.length := dpa_len hd
  have hm : (xs.zip ds).map (·.2) = ds := zip_snd hxd
  refine PySem.W.sorted_data (R := fun v (b : V × PyData) => RelV b.1 v ∧ Dp X.K C b.1 b.2) (bs := xs.zip ds) (enc := fun b => b.2) hl.isList (each_zip (fun v x d h1 h2 => ⟨h1, h2⟩) rv hd)
    (each_zip (R := fun v b => ∃ as, Reads s.heap v b.2 as) (fun v x d h1 h2 => Dp.reads I d x v (dpx ex h2) h1) rv hd) (by rw [hm]; exact ha) (by rw [hm]; exact hk) (by rw [List.length_zip, ← hxd, Nat.min_self]; exact hlen) (fun b hb => ?_) fun out h1 h2 => ?_
  · have : b.2 ∈ ds := (List.of_mem_zip (a := b.1) (b := b.2) hb).2
    have := hz _ this
    omega
  · obtain ⟨k1, k2⟩ := each_out (fun _ _ h => h) h2
    obtain ⟨ep, he'⟩ := PyProof.Rows.sortedAll_at s.heap its out.toArray
    have hml : (((xs.zip ds).mergeSort (PySem.W.dataLe false fun b => b.2)).map (·.1)).length ≤ sizeLine := by
      rw [List.length_map, List.length_mergeSort, List.length_zip, ← hxd, Nat.min_self]; exact hlen
    have hms : ((xs.zip ds).mergeSort (PySem.W.dataLe false fun b => b.2)).map (·.2) = srtD ds := by
      rw [List.map_mergeSort (r := PySem.W.dataLe false fun b : V × PyData => b.2) (s := PySem.W.dataLe false id) (f := fun b : V × PyData => b.2) (fun a _ b _ => rfl), hm]; rfl
    rw [hms] at k2
    exact ⟨.ref _, upd H (s.heap.objs.size + 1) (.lst _), I.laid (t' := s.toks) (fun _ _ => PyProof.Rows.sortedAll_old) (Nat.le_succ _) ⟨hml, out, ep, k1, he'⟩, rfl, q _ _ k2 (I.hok.fresh (Nat.le_succ _))⟩
noncomputable def mSortD : List MV → MH → Option (List MV × MH) := fun xs h => (arg1 xs).bind fun x => if isT x = false then (itemsOf h x).bind fun ys => (allD ys).bind fun ds => open Classical in if PySem.W.AllAlike ds ∧ PySem.W.Sortable ds ∧ ∀ d ∈ ds, d.depth ≤ 60 then some ((srtD ds).map .d, h) else none else none
theorem sf_sortD : SimCF K (rSortDD K) mSortD := fun w h us xs ys h' rl ra e Q q => by
  obtain ⟨x, e1, e⟩ := bind_of e
  split at e
  · rename_i ht
    obtain ⟨zs, e2, e⟩ := bind_of e
    obtain ⟨ds, e3, e⟩ := bind_of e
    split at e
    · rename_i hz
      cases e
      rw [arg1_of e1] at ra
      obtain ⟨u, rfl, rx⟩ := ra.one
      obtain ⟨p, vs, rfl, sq, rp⟩ := items_L rl rx e2 ht
      rw [allD_eq e3] at rp
      refine ⟨w.C, p, vs, ds, rfl, rl.ch, sq, rp.toD, hz.1, hz.2.1, hz.2.2, fun ys a hd hn => ?_⟩
      obtain ⟨s, r⟩ := fresh_ok (o := .lst ys) rl hn
      exact q _ a _ s r hn upd_same (rl.notin hn) (rl.cnone hn) (RepA.ofD hd)
    · cases e
  · cases e
end
/-! ### the order of what is sorted -/
theorem e_sortD {x : MV} {h : MH} {α : Type} (f : α → PyData) (xs : List α) (ht : isT x = false) (hi : itemsOf h x = some (xs.map fun a => .d (f a))) (ha : ∀ a b, PySem.W.alike (f a) (f b) = true) (hk : ∀ a, ∃ d r, f a = .tuple (d :: r)) (hz : ∀ a, (f a).depth ≤ 60) : mSortD [x] h = some ((srtD (xs.map f)).map .d, h) := by
  unfold mSortD
  rw [e_arg1, Option.bind_some, if_pos ht, hi, Option.bind_some, e_allDf, Option.bind_some, if_pos]
  refine ⟨fun d hd d' hd' => ?_, .inl fun d hd => ?_, fun d hd => ?_⟩
  · obtain ⟨a, _, rfl⟩ := List.mem_map.mp hd
    obtain ⟨b, _, rfl⟩ := List.mem_map.mp hd'
    exact ha a b
  · obtain ⟨a, _, rfl⟩ := List.mem_map.mp hd
    exact hk a
  · obtain ⟨a, _, rfl⟩ := List.mem_map.mp hd
    exact hz a
/-- what is sorted stands in the order, nothing lost -/
theorem srt_map {α : Type} (f : α → PyData) (le : α → α → Bool) (hle : ∀ a b, (!PySem.W.dataLt (f b) (f a)) = le a b) (xs : List α) : srtD (xs.map f) = (xs.mergeSort le).map f := by
  unfold srtD
  rw [List.map_mergeSort (s := PySem.W.dataLe false id) (r := le) (fun a _ b _ => ?_)]
  rw [← hle a b]
  exact (congrFun (congrFun (PySem.W.dataLe_eq false (id : PyData → PyData)) (f a)) (f b)).symm
end M
namespace M
open PySem PySem.Spec PyProof.Rows L2
open Evl (Ex ex_rd ex_l ex_t rMax2)
open G (dpx dpax dpa_len dpa_get dpa_app dpa_set ex_none wipe_get wipe_eq wipe_wipe RD UD CD Ret rMin2 rInt1 rAbs rTupOf rListOf li ti rSetLi tSoSet)
/-! ### over a list or a tuple -/
def iOr (w1 w2 : TI) : TI := fun σ H R => w1 σ H R ∨ w2 σ H R
theorem pi_or {X : Cx} {tg iter : Expr} {w1 w2 : TI} (h1 : PI X tg iter w1) (h2 : PI X tg iter w2) : PI X tg iter (iOr w1 w2) := ⟨fun pins s σ H R I h => h.elim (h1.run pins s σ H R I) (h2.run pins s σ H R I)⟩
def mItA (me : ME) : MI := fun env h => (me env h).bind fun r => (rowOf r.2 r.1).map fun s => (s, r.2)
theorem si_any {K : PySem.W.Frag} {te : TE} {me : ME} (h : SimE K te me) : SimI K (iOr (iList K te) (iTup K te)) (mItA me) := fun w h0 σ env si h' rl re e R q => by
  obtain ⟨⟨x, h1⟩, e1, e⟩ := bind_of e
  cases t : isT x with
  | false => exact .inl (si_list h w h0 σ env si h' rl re (by
      show (me env h0).bind _ = _
      rw [e1, Option.bind_some]
      simp only [t, if_true]
      exact e) R q)
  | true => exact .inr (si_tup h w h0 σ env si h' rl re (by
      show (me env h0).bind _ = _
      rw [e1, Option.bind_some]
      simp only [t, if_true]
      exact e) R q)
/-! ### ascending, each once -/
def insU (x : Int) : List Int → List Int
  | [] => [x]
  | y :: ys => if x < y then x :: y :: ys else if x = y then y :: ys else y :: insU x ys
def ascU : List Int → List Int
  | [] => []
  | x :: xs => insU x (ascU xs)
theorem mem_insU (x z : Int) : ∀ ys : List Int, z ∈ insU x ys ↔ z = x ∨ z ∈ ys
  | [] => by simp [insU]
  | y :: ys => by
    unfold insU
    split
    · simp
    · split
      · rename_i e
        rw [e]; simp
      · rw [List.mem_cons, mem_insU x z ys, List.mem_cons]
        exact ⟨fun h => by rcases h with h | h | h <;> simp [h], fun h => by rcases h with h | h | h <;> simp [h]⟩
theorem mem_ascU (z : Int) : ∀ xs : List Int, z ∈ ascU xs ↔ z ∈ xs
  | [] => Iff.rfl
  | x :: xs => by rw [ascU, mem_insU, mem_ascU z xs, List.mem_cons]
theorem insU_asc (x : Int) : ∀ {ys : List Int}, ys.Pairwise (· < ·) → (insU x ys).Pairwise (· < ·)
  | [], _ => by simp [insU]
  | y :: ys, h => by
    have hc := List.pairwise_cons.mp h
    unfold insU
    split
    · rename_i hxy
      refine List.pairwise_cons.mpr ⟨fun z m => ?_, h⟩
      rcases List.mem_cons.mp m with rfl | m
      · exact hxy
      · exact Int.lt_trans hxy (hc.1 z m)
    · split
      · exact h
      · refine List.pairwise_cons.mpr ⟨fun z m => ?_, insU_asc x hc.2⟩
        rcases (mem_insU x z ys).mp m with rfl | m
        · omega
        · exact hc.1 z m
theorem ascU_asc : ∀ xs : List Int, (ascU xs).Pairwise (· < ·)
  | [] => .nil
  | x :: xs => insU_asc x (ascU_asc xs)
theorem asc_same : ∀ {xs ys : List Int}, xs.Pairwise (· < ·) → ys.Pairwise (· < ·) → (∀ z, z ∈ xs ↔ z ∈ ys) → xs = ys
  | [], [], _, _, _ => rfl
  | [], y :: ys, _, _, h => by have := (h y).mpr List.mem_cons_self; cases this
  | x :: xs, [], _, _, h => by have := (h x).mp List.mem_cons_self; cases this
  | x :: xs, y :: ys, hx, hy, h => by
    have ax := List.pairwise_cons.mp hx
    have ay := List.pairwise_cons.mp hy
    have e : x = y := by
      have m1 := (h x).mp List.mem_cons_self
      have m2 := (h y).mpr List.mem_cons_self
      rcases List.mem_cons.mp m1 with e | m1
      · exact e
      · rcases List.mem_cons.mp m2 with e | m2
        · exact e.symm
        · have := ax.1 y m2; have := ay.1 x m1; omega
    subst e
    rw [asc_same ax.2 ay.2 fun z => ?_]
    constructor
    · intro m
      rcases List.mem_cons.mp ((h z).mp (List.mem_cons_of_mem _ m)) with e | m'
      · subst e; exact absurd (ax.1 z m) (Int.lt_irrefl z)
      · exact m'
    · intro m
      rcases List.mem_cons.mp ((h z).mpr (List.mem_cons_of_mem _ m)) with e | m'
      · subst e; exact absurd (ay.1 z m) (Int.lt_irrefl z)
      · exact m'
def intsOf : List MV → Option (List Int)
  | [] => some []
  | x :: xs => (asI x).bind fun i => (intsOf xs).map (i :: ·)
theorem intsOf_map : ∀ ns : List Int, intsOf (ns.map dI) = some ns
  | [] => rfl
  | n :: ns => by
    show (asI (dI n)).bind _ = _
    rw [e_asI, Option.bind_some, intsOf_map ns]; rfl
theorem intsOf_eq : ∀ {xs : List MV} {ns : List Int}, intsOf xs = some ns → xs = ns.map dI
  | [], ns, h => by cases h; rfl
  | x :: xs, ns, h => by
    obtain ⟨i, e1, h⟩ := bind_of h
    obtain ⟨r, e2, h⟩ := map_of h
    subst h
    rw [asI_of e1, intsOf_eq e2]; rfl
theorem rep_ints {K : PySem.W.Frag} {ι : List Addr} {C : Hp} : ∀ {vs : List V} {ns : List Int}, RepA K ι C vs (ns.map dI) → vs = ns.map V.int
  | _, [], .nil => rfl
  | _, n :: ns, .cons r t => by
    rw [rep_ints t]
    cases r with
    | d h => cases h; rfl
def mSoSet (ml : MA) : MA := fun env h => (ml env h).bind fun r => (arg1 r.1).bind fun x => if isT x = false then (itemsOf r.2 x).bind fun ys => (intsOf ys).bind fun ns => if ns.length < 64 then some ((ascU ns).map dI, r.2) else none else none
theorem sm_soSet {K : PySem.W.Frag} {tl : TA} {ml : MA} (h : SimA K tl ml) : SimF K (tSoSet K tl) (mSoSet ml) := fun w h0 σ env xs h' rl re e Q q wd => by
  obtain ⟨⟨as, h1⟩, e1, e⟩ := bind_of e
  obtain ⟨x, e2, e⟩ := bind_of e
  split at e
  · rename_i ht
    obtain ⟨ys, e3, e⟩ := bind_of e
    obtain ⟨ns, e4, e⟩ := bind_of e
    split at e
    · rename_i hz
      cases e
      refine h w h0 σ env as h1 rl re e1 _ fun w1 us s1 r1 x1 => ?_
      replace e2 : arg1 as = some x := e2
      rw [arg1_of e2] at x1
      obtain ⟨u, rfl, rx⟩ := x1.one
      obtain ⟨p0, vs, rfl, sq, rp⟩ := items_L r1 rx e3 ht
      rw [intsOf_eq e4] at rp
      rw [rep_ints rp] at sq
      refine ⟨_, ns, rfl, sq, by simp only [scanBound]; omega, fun p n le hp => ?_⟩
      show rSortedSet wd [V.ref p] _ Q
      refine ⟨p, _, n, rfl, upd_same, by omega, fun ks q2 g1 g2 _ g3 => ?_⟩
      have e5 : ks = ascU ns := asc_same g1 (ascU_asc ns) fun z => by rw [g2 z, mem_ascU]; simp
      subst e5
      obtain ⟨s2, r2⟩ := fresh_ok (o := SetO wd p (fun j => decide (j ∈ ns)) n) r1 hp
      obtain ⟨s3, r3⟩ := fresh_ok (o := .lst ((ascU ns).map V.int)) r2 g3
      have sA := (s1.trans s2).trans s3
      have hq0 : w.H q2 = none := by
        cases z : w.H q2 with
        | none => rfl
        | some o => exact absurd g3 ((s1.trans s2).kp q2 (by rw [z]; exact fun q => nomatch q))
      exact q _ q2 _ sA r3 hq0 upd_same (r2.notin g3) (r2.cnone g3) (by
        have := ints_rep (K := K) (ι := w1.ι) (C := w1.C) (ascU ns)
        exact this)
    · cases e
  · cases e
theorem e_lift5 {f : List PyData → Option PyData} {a b c d e : PyData} {h : MH} : liftD f [.d a, .d b, .d c, .d d, .d e] h = (f [a, b, c, d, e]).map fun r => (.d r, h) := rfl
end M
namespace M
open PySem PySem.Spec PyProof.Rows L2
/-! ### the body of a key, over the heap alone -/
def Keep (h h' : Heap) : Prop := ∀ b o, h.get? b = some o → h'.get? b = some o
theorem Keep.refl (h : Heap) : Keep h h := fun _ _ e => e
theorem Keep.trans {h h1 h2 : Heap} (a : Keep h h1) (b : Keep h1 h2) : Keep h h2 := fun c o e => b c o (a c o e)
/-- e gives f of the datum that x stands for -/
def KB (prog : Program) (w : World) (sc : Scope) (x : Str) (e : Expr) (f : PyData → Option PyData) : Prop :=
  ∀ (env : PySem.Env) (A : Around) (E : Value → Shared → Prop) (v : Value) (d r : PyData) (as : List Addr) (s : Shared) (m : Str → Option Value) (Q : Value → Shared → Prop), env.scope = sc → s.heap.Ns env.locals m → m x = some v → Reads s.heap v d as → f d = some r →
    (∀ (u : Value) (bs : List Addr) (h' : Heap) (tk : Nat), Keep s.heap h' → Reads h' u r bs → Q u { s with heap := h', toks := tk }) → wpAny (model prog w) A (eval e env) Q E s
section
variable {prog : Program} {w : World} {sc : Scope} {x : Str}
theorem kb_name {p : Pos} (hk : sc.kind = .function) (hl : sc.names.lookup x = some .local) (hd : (x == ("__debug__" : Str)) = false := by decide) : KB prog w sc x (.Name x p) some := fun env A E v d r as s m Q es hn hm rd e q => by
  cases e
  refine wpAny_Name (wpAny_loadName_local (by rw [es]; exact hk) (show env.scope.names.lookup x = some .local by rw [es]; exact hl) hn hm ?_) hd
  exact q v as s.heap s.toks (Keep.refl _) rd
theorem reads_at : ∀ {h : Heap} {vs : List Value} {ds : List PyData} {as : List Addr} {j : Nat} {d : PyData}, ReadsAll h vs ds as → ds[j]? = some d → ∃ v bs, vs[j]? = some v ∧ Reads h v d bs
  | _, _, _, _, _, _, .nil, e => by simp at e
  | _, _, _, _, 0, _, .cons r _, e => by simp at e; subst e; exact ⟨_, _, rfl, r⟩
  | _, _, _, _, j + 1, _, .cons _ rs, e => by
    obtain ⟨v, bs, h1, h2⟩ := reads_at rs (show _ = some _ by simpa using e)
    exact ⟨v, bs, by simpa using h1, h2⟩
theorem readsAll_len : ∀ {h : Heap} {vs : List Value} {ds : List PyData} {as : List Addr}, ReadsAll h vs ds as → vs.length = ds.length
  | _, _, _, _, .nil => rfl
  | _, _, _, _, .cons _ rs => by rw [List.length_cons, List.length_cons, readsAll_len rs]
theorem readsAll_keeps {h h' : Heap} (k : Keep h h') : ∀ {vs : List Value} {ds : List PyData} {as : List Addr}, ReadsAll h vs ds as → ReadsAll h' vs ds as
  | _, _, _, .nil => .nil
  | _, _, _, .cons r rs => .cons (PyProof.Rows.Reads.keeps k r) (readsAll_keeps k rs)
def fIx (f : PyData → Option PyData) (j : Nat) : PyData → Option PyData := fun d => (f d).bind fun r => match r with
  | .tuple ds => ds[j]?
  | _ => none
theorem kb_ix {e : Expr} {f : PyData → Option PyData} {j k : Nat} {p p2 : Pos} (h : KB prog w sc x e f) (hj : j < 1000) (hs : ∀ o i, subscripted (.Constant (.int (j : Int)) k p) false o i = operate [o, i] (getItem o i)) : KB prog w sc x (.Subscript e (.Constant (.int (j : Int)) k p) p2) (fIx f j) := fun env A E v d r as s m Q es hn hm rd hf q => by
  obtain ⟨t, e1, e2⟩ := bind_of hf
  refine Subscript_ (h env A E v d t as s m _ es hn hm rd e1 fun u bs h' tk kp ru => wpAny_Constant_int ?_)
  split at e2
  · rename_i ds
    cases ru with
    | tuple ho hc hd ra =>
      rename_i a o vs n
      obtain ⟨y, cs, g1, g2⟩ := reads_at ra e2
      have hlt : j < vs.toList.length := (List.getElem?_eq_some_iff.mp g1).1
      refine subscriptTail_builtinR (x := y) (IsTup.typeIs ⟨o, ho, hc, n, hd⟩) slot_tuple_getitem.lookup
        (PyProof.Rows.getItem_tuple (j := j) (Q := fun r' s' => r' = y ∧ Q r' s') ⟨o, ho, hc, n, hd⟩ (by omega) (by omega) ?_ ?_ ⟨rfl, ?_⟩) (hs _ _)
      · unfold seqIndex?
        rw [Array.length_toList] at hlt
        simp
        omega
      · rw [← g1]; simp
      · exact q y cs h' _ kp g2
  · cases e2
def KBs (prog : Program) (w : World) (sc : Scope) (x : Str) (es : List Expr) (f : PyData → Option (List PyData)) : Prop :=
  ∀ (pos : Pos) (env : PySem.Env) (A : Around) (E : Value → Shared → Prop) (v : Value) (d : PyData) (rs : List PyData) (as : List Addr) (s : Shared) (m : Str → Option Value) (Q : List Value → Shared → Prop), env.scope = sc → s.heap.Ns env.locals m → m x = some v → Reads s.heap v d as → f d = some rs →
    (∀ (us : List Value) (bs : List Addr) (h' : Heap) (tk : Nat), Keep s.heap h' → ReadsAll h' us rs bs → Q us { s with heap := h', toks := tk }) → wpAny (model prog w) A (spliced (backTo pos (starEach es env))) Q E s
theorem kbs_nil : KBs prog w sc x [] (fun _ => some []) := fun pos env A E v d rs as s m Q es hn hm rd hf q => by
  cases hf
  exact Calls.spliced_nil (q [] [] s.heap s.toks (Keep.refl _) .nil)
theorem kbs_cons {e : Expr} {es : List Expr} {f : PyData → Option PyData} {g : PyData → Option (List PyData)} (h : KB prog w sc x e f) (hr : KBs prog w sc x es g) (hs : ∀ env : PySem.Env, starEach (e :: es) env = (false, eval e env) :: starEach es env := by intro; rfl) :
    KBs prog w sc x (e :: es) (fun d => (f d).bind fun a => (g d).map fun r => a :: r) := fun pos env A E v d rs as s m Q es' hn hm rd hf q => by
  obtain ⟨a, e1, e2⟩ := bind_of hf
  obtain ⟨r, e3, e4⟩ := map_of e2
  subst e4
  rw [hs]
  show wpAny _ _ (spliced ((false, eval e env) :: backTo pos (starEach es env))) _ _ s
  refine Calls.spliced_cons (h env A E v d a as s m _ es' hn hm rd e1 fun u bs h' tk kp ru => ?_)
  refine hr pos env A E v d r as { s with heap := h', toks := tk } m _ es' (hn.keeps kp) hm (PyProof.Rows.Reads.keeps kp rd) e3 fun us cs h2 tk2 kp2 rus => ?_
  exact q (u :: us) (bs ++ cs) h2 tk2 (kp.trans kp2) (.cons (PyProof.Rows.Reads.keeps kp2 ru) rus)
theorem kb_tup {es : List Expr} {k : Nat} {p : Pos} {g : PyData → Option (List PyData)} (h : KBs prog w sc x es g) (hz : ∀ d rs, g d = some rs → rs.length ≤ 1000) : KB prog w sc x (.Tuple es k p) (fun d => (g d).map .tuple) := fun env A E v d r as s m Q es' hn hm rd hf q => by
  obtain ⟨rs, e1, e2⟩ := map_of hf
  subst e2
  refine wpAny_Tuple_spliced (h p env A E v d rs as s m _ es' hn hm rd e1 fun us bs h' tk kp rus => ?_)
  have hl : us.length = rs.length := readsAll_len rus
  have := hz d rs e1
  refine ⟨by rw [sizeLine_eq]; omega, ?_⟩
  have kp2 : Keep h' (h'.push { cls := .type "tuple", data := .seq us.toArray }) := fun b o e => Heap.get?_push_of_some _ e
  exact q _ bs _ tk (kp.trans kp2) (.tuple (Heap.get?_push_size _ rfl) rfl rfl (by simpa using readsAll_keeps kp2 rus))
mutual
theorem reads_noL : ∀ {h : Heap} {v : Value} {d : PyData} {as : List Addr}, noL d = true → Reads h v d as → as = []
  | _, _, _, _, _, .none => rfl
  | _, _, _, _, _, .bool _ => rfl
  | _, _, _, _, _, .int _ _ => rfl
  | _, _, _, _, _, .str _ _ => rfl
  | _, _, _, _, n, .list _ _ _ _ => by rw [noL] at n; cases n
  | _, _, _, _, n, .tuple _ _ _ ra => readsA_noL (by rw [noL] at n; exact n) ra
  | _, _, _, _, n, .dict _ _ _ _ _ => by rw [noL] at n; cases n
theorem readsA_noL : ∀ {h : Heap} {vs : List Value} {ds : List PyData} {as : List Addr}, noLA ds = true → ReadsAll h vs ds as → as = []
  | _, _, _, _, _, .nil => rfl
  | _, _, _, _, n, .cons r rs => by
    rw [noLA, Bool.and_eq_true] at n
    rw [reads_noL n.1 r, readsA_noL n.2 rs]; rfl
end
structure KeyS (sc : Scope) (x : Str) : Prop where
  kind : sc.kind = .function
  co : sc.isCoroutine = false
  gen : sc.isGenerator = false
  loc : sc.names.lookup x = some .local
  nc : ∀ y ∈ sc.names, y.2 ≠ .cell
theorem key_turn {f c' : Addr} {q : Str} {pm ctv : Value} {params : Arguments} {body : Expr} {g : PyData → Option PyData} (S : KeyS sc x) (B : KB prog w sc x body g) (hbind : ∀ v, bindArgs (PySem.W.kla_fn "<lambda>" q params body sc [] pm (.ref c') ctv) ⟨[v], []⟩ = pure [(x, v)])
    {A : Around} {s : Shared} {v : Value} {d r : PyData} {as : List Addr} (hd : A.depth < recursionLimit) (hf : s.heap.get? f = some (PySem.W.kla_obj "<lambda>" q params body sc [] pm c' ctv)) (hc : s.heap.CodeRec (.ref c') q) (lim : s.heap.NoLimit) (rd : Reads s.heap v d as) (hg : g d = some r) (hn : noL r = true) :
    wpAny (model prog w) A (call (.ref f) [v]) (PySem.W.KeyPure r s) (fun _ _ => False) s := by
  refine wpAny_call (PySem.W.kla_callFunE hd hf rfl S.co S.gen rfl hc ?_)
  rw [hbind v]
  refine wpAny_pure (wpAny_newFunctionEnv S.nc (fun y hy => by rw [List.mem_singleton.mp hy]; exact S.loc) (fun h₁ hns hsb => ⟨lim.fresh _ hsb, ?_⟩) S.kind)
  have kp : Keep s.heap h₁ := fun b o e => hsb.extBut b o (Nat.ne_of_lt (Heap.lt_size e)) (Heap.get?_push_of_some _ e)
  refine PySem.W.kla_codeExpr (B _ _ _ v d r as _ _ _ rfl hns (by simp) (PyProof.Rows.Reads.keeps kp rd) hg fun u bs h' tk kp2 ru => ?_)
  have hb := reads_noL hn ru
  subst hb
  exact ⟨h', tk, rfl, kp.trans kp2, ru⟩
end
end M
namespace M
open PySem PySem.Spec PyProof.Rows L2
open Evl (Ex ex_rd ex_l ex_t rMax2)
open G (dpx dpax dpa_len ex_none)
/-! ### sorted(xs, key=f), f a lambda -/
/-- the object at f is that lambda -/
def LamO (f c' : Addr) (q : Str) (params : Arguments) (body : Expr) (sc : Scope) : HO := .ext fun h => ∃ pm ctv, h.get? f = some (PySem.W.kla_obj "<lambda>" q params body sc [] pm c' ctv)
/-- the code objects that are told by name -/
noncomputable def keyD (g : PyData → Option PyData) (d : PyData) : PyData := (g d).getD .none
noncomputable def srtK (g : PyData → Option PyData) (ds : List PyData) : List PyData := ds.mergeSort (PySem.W.dataLe false (keyD g))
def KeysOk (g : PyData → Option PyData) (ds : List PyData) : Prop := (∀ d ∈ ds, ∃ r, g d = some r ∧ noL r = true ∧ r.depth ≤ 60) ∧ PySem.W.AllAlike (ds.map (keyD g)) ∧ PySem.W.Sortable (ds.map (keyD g))
def rSortLam (K : PySem.W.Frag) (q : Str) (params : Arguments) (body : Expr) (sc : Scope) (g : PyData → Option PyData) : List V → List V → Hp → VK → Prop := fun vs zs H Q =>
  ∃ (C : Hp) (f c' a : Addr) (xs : List V) (ds : List PyData), vs = [.ref a] ∧ zs = [.ref f] ∧ H f = some (LamO f c' q params body sc) ∧ H c' = some (LamX.CodeO c' q) ∧ Ex C H ∧ SqL K H a xs ∧ DpAll K C xs ds ∧ KeysOk g ds ∧
    ∀ (ys : List V) (p : Addr), DpAll K C ys (srtK g ds) → H p = none → Q (.ref p) (upd H p (.lst ys))
theorem cr_sortLam {X : Cx} {q : Str} {params : Arguments} {body : Expr} {sc : Scope} {x : Str} {g : PyData → Option PyData} {k : Nat} (hr : Room k X.A) (S : KeyS sc x) (B : KB X.prog X.w sc x body g)
    (hbind : ∀ pm c' ctv v, bindArgs (PySem.W.kla_fn "<lambda>" q params body sc [] pm (.ref c') ctv) ⟨[v], []⟩ = pure [(x, v)]) : CallRK X (.builtin "sorted") [Str.ofString "key"] (rSortLam X.K q params body sc g) := by
  intro pins s σ H vs zs us ws Q I r rz h
  obtain ⟨C, f, c', a, xs, ds, rfl, rfl, hf, hc, ex, hs, hd, ⟨hg, hal, hk⟩, qq⟩ := h
  obtain ⟨its, rv, hl, hlen⟩ := I.list hs
  rw [Vals.ref1 r, Vals.ref1 rz]
  have hxd : xs.length = ds.length := dpa_len hd
  have hm : (xs.zip ds).map (·.2) = ds := zip_snd hxd
  have hm2 : (xs.zip ds).map (fun b => keyD g b.2) = ds.map (keyD g) := by
    rw [show (xs.zip ds).map (fun b => keyD g b.2) = ((xs.zip ds).map (·.2)).map (keyD g) by rw [List.map_map]; rfl, hm]
  have key : ∀ d ∈ ds, g d = some (keyD g d) ∧ noL (keyD g d) = true ∧ (keyD g d).depth ≤ 60 := fun d m => by
    obtain ⟨r, e1, e2, e3⟩ := hg d m
    unfold keyD
    rw [e1]
    exact ⟨rfl, e2, e3⟩
  obtain ⟨⟨pm, ctv, hfo⟩, _, _⟩ := I.hok f _ hf
  have hcr : s.heap.CodeRec (.ref c') q := by
    obtain ⟨⟨oc, vs, t, h1, h2, h3⟩, _, _⟩ := I.hok c' _ hc
    exact ⟨c', oc, vs, t, rfl, h1, h2, h3⟩
  refine PySem.W.sorted_key_data (b := false) (R := fun v (b : V × PyData) => RelV b.1 v ∧ Dp X.K C b.1 b.2) (bs := xs.zip ds) (fun b => keyD g b.2) hl.isList (each_zip (fun v x d h1 h2 => ⟨h1, h2⟩) rv hd) (by rw [hm2]; exact hal) (by rw [hm2]; exact hk)
    (by rw [List.length_zip, ← hxd, Nat.min_self]; exact hlen) (fun b hb => ?_) (PyProof.Rows.ksk_s1 _ _) (fun _ => PyProof.Rows.ksk_l1 _ _) (fun _ => PyProof.Rows.ksk_t1 _ _) (fun v b hR hb h tk kp => ?_) fun out c h' tk kp nf hD h1 h2 => ?_
  · have := (key b.2 (List.of_mem_zip (a := b.1) (b := b.2) hb).2).2.2
    have := hr.un
    omega
  · obtain ⟨k1, k2, _⟩ := key b.2 (List.of_mem_zip (a := b.1) (b := b.2) hb).2
    obtain ⟨as, rd⟩ := Dp.reads I b.2 b.1 v (dpx ex hR.2) hR.1
    refine key_turn (d := b.2) (as := as) S B (hbind pm c' ctv) ?_ (kp _ _ hfo) (hcr.keeps kp) (I.nolimit.keeps kp) (PyProof.Rows.Reads.keeps kp rd) k1 k2
    have := hr.dp
    show X.A.depth < recursionLimit
    omega
  · obtain ⟨k1, k2⟩ := each_out (fun _ _ h => h) h2
    have hml : (((xs.zip ds).mergeSort (PySem.W.dataLe false fun b => keyD g b.2)).map (·.1)).length ≤ sizeLine := by
      rw [List.length_map, List.length_mergeSort, List.length_zip, ← hxd, Nat.min_self]; exact hlen
    have hms : ((xs.zip ds).mergeSort (PySem.W.dataLe false fun b => keyD g b.2)).map (·.2) = srtK g ds := by
      rw [List.map_mergeSort (r := PySem.W.dataLe false fun b : V × PyData => keyD g b.2) (s := PySem.W.dataLe false (keyD g)) (f := fun b : V × PyData => b.2) (fun a _ b _ => rfl), hm]; rfl
    rw [hms] at k2
    exact ⟨.ref _, upd H (s.heap.objs.size + 1) (.lst _), I.laid (t' := tk) kp (Nat.le_succ _) ⟨hml, out, c, k1, hD⟩, rfl, qq _ _ k2 (I.hok.fresh (Nat.le_succ _))⟩
end M
namespace M
open PySem PySem.Spec PyProof.Rows L2
open Evl (Ex ex_rd ex_l ex_t rMax2)
open G (dpx dpax dpa_len ex_none)
open LamX (TabS TabB CodeO among_app inv_table)
/-! ### a lambda is made -/
/-- what the making does to what is held: nothing, or the table grows by a code object that is new -/
def Made (P : Addr) (q : Str) (H : Hp) (c' : Addr) (H1 : Hp) : Prop := H1 = H ∨ ∃ ps ps' : Array Value, H P = some (.tbl ps) ∧ H c' = none ∧ (∀ (pos : Pos) (cv : Value), codeAmong pos ps'.toList = some cv → codeAmong pos ps.toList = some cv ∨ cv = .ref c') ∧ H1 = upd (upd H P (.tbl ps')) c' (CodeO c' q)
def tLamO (P : Addr) (q : Str) (params : Arguments) (body : Expr) (sc : Scope) : TE := fun _ H Q => TabS H P q ∧ ∀ (f c' : Addr) (H1 : Hp), Made P q H c' H1 → TabS H1 P q → H1 f = none → H1 c' = some (CodeO c' q) → Q (.ref f) (upd H1 f (LamO f c' q params body sc))
theorem no_clo {cells : List (Str × Addr)} {sc : Scope} (h : ∀ y ∈ sc.names, y.2 ≠ .free) : cloFrom cells sc.names [] = [] := by
  refine List.eq_nil_iff_forall_not_mem.mpr fun y hy => ?_
  rcases cloFrom_mem hy with z | ⟨z, _⟩
  · cases z
  · exact h _ z rfl
theorem lamO_ok {P : Program} {w : World} {H : Hp} {h : Heap} {f c' : Addr} {q : Str} {params : Arguments} {body : Expr} {sc : Scope} {pm ctv : Value} (e : h.get? f = some (PySem.W.kla_obj "<lambda>" q params body sc [] pm c' ctv)) : ObjOk P w H h f (LamO f c' q params body sc) :=
  ⟨⟨pm, ctv, e⟩, ⟨_, e⟩, fun _ _ ⟨a, b, z⟩ st => ⟨a, b, st _ z⟩⟩
theorem pe_lamO {X : Cx} {c P : Addr} {q : Str} {params : Arguments} {body : Expr} {sc : Scope} {pos : Pos} (TB : TabB X.base X.mg c P) (hcode : X.env.code = .ref c) (hq : X.env.qual ++ "<lambda>" = q) (hdef : defaultsOf params X.env = ([], [])) (hfree : ∀ y ∈ sc.names, y.2 ≠ .free) :
    PE X (.Lambda params body sc pos) (tLamO P q params body sc) := by
  refine ⟨fun pins s σ H Q I h => ?_⟩
  obtain ⟨⟨ps, hP, ht, ha⟩, h⟩ := h
  refine PySem.W.kla_eval hdef ?_
  rw [hq]
  have hclo : closureFor sc X.env = pure [] := by
    rw [closure_ok (scope := sc) (env := X.env) fun y m e => absurd e (hfree y m), no_clo hfree]
  have bP := TB.bm.keeps I.bk
  have hP' : s.heap.get? P = some { cls := .none, data := .fields ps } := I.hok P _ hP
  cases hc : codeAmong pos ps.toList with
  | none =>
    refine PySem.W.kla_makeFunction (mg := X.mg) (c := c) (P := P) (ps := ps) hclo I.ok.glob (I.mod.glob.keeps I.bk) hcode (TB.code.keeps I.bk) hP' ht hc TB.gP bP fun c' ctv h' tk hx hge hlt hrec htb => ?_
    obtain ⟨c2, oc, vs, t, z, hoc, hdc, hvc⟩ := hrec
    cases z
    have nC : H c' = none := I.hok.fresh hge
    have hsz : s.heap.objs.size ≤ h'.objs.size := Nat.le_trans hge (Nat.le_of_lt hlt)
    have J := inv_table (t' := tk) (more := #[rawInt pos.line, rawInt pos.col, .ref c']) I hP (fun b o hb e => hx b o hb e) htb hge ⟨oc, vs, t, hoc, hdc, hvc⟩
    obtain ⟨H1, hH1⟩ : ∃ H1, H1 = upd (upd H P (.tbl (ps ++ #[rawInt pos.line, rawInt pos.col, .ref c']))) c' (CodeO c' q) := ⟨_, rfl⟩
    rw [← hH1] at J
    have nPc : P ≠ c' := fun z => by rw [z, nC] at hP; cases hP
    have c1 : H1 c' = some (CodeO c' q) := by rw [hH1, upd_same]
    have keepC : ∀ b q', H b = some (CodeO b q') → H1 b = some (CodeO b q') := fun b q' e => by
      rw [hH1, upd_ne (fun z => by rw [z, nC] at e; cases e), upd_ne (fun z => by rw [z, hP] at e; exact LamX.codeO_ne ps (Option.some.inj e).symm)]
      exact e
    have tb1 : TabS H1 P q := by
      refine ⟨ps ++ #[rawInt pos.line, rawInt pos.col, .ref c'], by rw [hH1, upd_ne nPc, upd_same], ?_, fun p' cv hcv => ?_⟩
      · rw [Array.toList_append]
        exact PySem.TriplesOk_snoc _ _ _ _ ht
      · rw [Array.toList_append] at hcv
        rcases among_app _ ht hcv with z | z
        · obtain ⟨c0, e1, e2⟩ := ha p' cv z
          exact ⟨c0, e1, keepC _ _ e2⟩
        · exact ⟨c', z, c1⟩
    have nf : H1 h'.objs.size = none := J.hok.fresh (Nat.le_refl _)
    exact ⟨.ref h'.objs.size, _, J.laid (t' := tk) (fun b u e => Heap.get?_push_of_some _ e) (Nat.le_refl _) (lamO_ok (Heap.get?_push_size _ rfl)), rfl, h _ c' H1 (.inr ⟨ps, _, hP, nC, fun p' cv hcv => among_app _ ht (by rw [Array.toList_append] at hcv; exact hcv), hH1⟩) tb1 nf c1⟩
  | some cv =>
    obtain ⟨c', z, hco⟩ := ha pos cv hc
    subst z
    refine PySem.W.kla_makeFunctionHit (mg := X.mg) (c := c) (P := P) (ps := ps) hclo I.ok.glob (I.mod.glob.keeps I.bk) hcode (TB.code.keeps I.bk) hP' ht hc bP fun ctv h' tk hx hsz => ?_
    have J : Inv X pins σ H { s with heap := h', toks := tk } := I.kept hx
    exact ⟨.ref h'.objs.size, _, J.laid (t' := tk) (fun b u e => Heap.get?_push_of_some _ e) (Nat.le_refl _) (lamO_ok (Heap.get?_push_size _ rfl)), rfl, h _ c' H (.inl rfl) ⟨ps, hP, ht, ha⟩ (J.hok.fresh (Nat.le_refl _)) hco⟩
end M
namespace M
open PySem PySem.Spec PyProof.Rows L2
open Evl (Ex ex_rd ex_l ex_t rMax2)
open G (dpx dpax dpa_len ex_none)
open LamX (TabS TabB CodeO)
/-! ### sorted(e, key=lambda ..) -/
def qlam (x : Str) : Str := (x ++ ".<locals>.") ++ "<lambda>"
def lamArgs : Expr → Arguments
  | .Lambda a _ _ _ => a
  | _ => ⟨[], [], none, [], [], none, []⟩
def lamBody : Expr → Expr
  | .Lambda _ b _ _ => b
  | e => e
def lamScope : Expr → Scope
  | .Lambda _ _ s _ => s
  | _ => { kind := .function, names := [], isGenerator := false, isCoroutine := false, more := [] }
def tSortLam (K : PySem.W.Frag) (P : Addr) (q : Str) (lam : Expr) (g : PyData → Option PyData) (te : TE) : TE := tCKw (rSortLam K q (lamArgs lam) (lamBody lam) (lamScope lam) g) (tCons te tNil) (tCons (tLamO P q (lamArgs lam) (lamBody lam) (lamScope lam)) tNil)
theorem len_nil : ∀ (d : PyData) (rs : List PyData), (fun _ : PyData => some ([] : List PyData)) d = some rs → rs.length ≤ 0 := fun d rs e => by cases e; exact Nat.le_refl _
theorem len_cons {n : Nat} {f : PyData → Option PyData} {g : PyData → Option (List PyData)} (h : ∀ d rs, g d = some rs → rs.length ≤ n) : ∀ (d : PyData) (rs : List PyData), ((f d).bind fun a => (g d).map fun r => a :: r) = some rs → rs.length ≤ n + 1 := fun d rs e => by
  obtain ⟨a, _, e2⟩ := bind_of e
  obtain ⟨r, e3, e4⟩ := map_of e2
  subst e4
  exact Nat.succ_le_succ (h d r e3)
theorem len_le {n : Nat} {g : PyData → Option (List PyData)} (h : ∀ d rs, g d = some rs → rs.length ≤ n) (hn : n ≤ 1000) : ∀ d rs, g d = some rs → rs.length ≤ 1000 := fun d rs e => Nat.le_trans (h d rs e) hn
theorem pe_sortLam {X : Cx} {c P : Addr} {q : Str} {lam e : Expr} {x : Str} {g : PyData → Option PyData} {k : Nat} {te : TE} {p pos kpos lpos : Pos} (hr : Room k X.A) (TB : TabB X.base X.mg c P) (hcode : X.env.code = .ref c) (hq : X.env.qual ++ "<lambda>" = q)
    (hdef : defaultsOf (lamArgs lam) X.env = ([], [])) (hfree : ∀ y ∈ (lamScope lam).names, y.2 ≠ .free) (S : KeyS (lamScope lam) x) (B : KB X.prog X.w (lamScope lam) x (lamBody lam) g)
    (hbind : ∀ pm c' ctv v, bindArgs (PySem.W.kla_fn "<lambda>" q (lamArgs lam) (lamBody lam) (lamScope lam) [] pm (.ref c') ctv) ⟨[v], []⟩ = pure [(x, v)]) (hg : Gl X "sorted") (hm : X.mg "sorted" = none) (he : PE X e te)
    (h1 : starEach [e] X.env = (false, eval e X.env) :: starEach [] X.env := by rfl) (h2 : (backTo pos (starEach [e] X.env)).any (·.1) = false := by rfl)
    (h3 : (backToKw pos (keywordEach [⟨some "key", .Lambda (lamArgs lam) (lamBody lam) (lamScope lam) lpos, kpos⟩] X.env)).all (·.1.isSome) = true := by rfl) (h4 : (backToKw pos (keywordEach [⟨some "key", .Lambda (lamArgs lam) (lamBody lam) (lamScope lam) lpos, kpos⟩] X.env)).any (·.1.isNone) = false := by rfl)
    (h5 : (backToKw pos (keywordEach [⟨some "key", .Lambda (lamArgs lam) (lamBody lam) (lamScope lam) lpos, kpos⟩] X.env)).filterMap (·.1) = [Str.ofString "key"] := by rfl) :
    PE X (.Call (.Name "sorted" p) [e] [⟨some "key", .Lambda (lamArgs lam) (lamBody lam) (lamScope lam) lpos, kpos⟩] pos) (tSortLam X.K P q lam g te) :=
  pe_callBK (cr_sortLam hr S B hbind) hg hm rfl (pa_cons he pa_nil h1) (pk_cons (pe_lamO TB hcode hq hdef hfree) pk_nil) (by decide) (by decide) (by rw [h1]; rfl) h2 h3 h4 h5
noncomputable def mSortLam (i : Nat) (P : Addr) (q : Str) (g : PyData → Option PyData) (me : ME) : MA := fun env h => (me env h).bind fun r => open Classical in if r.2[i]? = some (.tab P q) ∧ isT r.1 = false then (itemsOf r.2 r.1).bind fun ys => (allD ys).bind fun ds => if KeysOk g ds then some ((srtK g ds).map .d, r.2) else none else none
/-- behind the making of a lambda -/
theorem made_ok {K : PySem.W.Frag} {w : Wd} {h : MH} (r : Rel K w h) {P c' : Addr} {q : Str} {H1 : Hp} (hP : P ∈ w.ι) (m : Made P q w.H c' H1) (tb : TabS H1 P q) (hq : ∀ (n : Nat) (b : Ob), w.ι[n]? = some P → h[n]? = some b → b = .tab P q) :
    ∃ C1 : Hp, Step w ⟨w.ι, C1, H1⟩ ∧ Rel K ⟨w.ι, C1, H1⟩ h := by
  rcases m with rfl | ⟨ps, ps', hp, hc, hold, e⟩
  · exact ⟨w.C, .refl w, r⟩
  · have nPc : P ≠ c' := fun z => by rw [z, hc] at hp; cases hp
    have cC : w.C c' = none := r.cnone hc
    have nc' : c' ∉ w.ι := r.notin hc
    have H1P : H1 P = some (.tbl ps') := by rw [e, upd_ne nPc, upd_same]
    have H1c : H1 c' = some (CodeO c' q) := by rw [e, upd_same]
    have H1o : ∀ a, a ≠ P → a ≠ c' → H1 a = w.H a := fun a z1 z2 => by rw [e, upd_ne z2, upd_ne z1]
    have ex : Ex w.C (upd w.C c' (CodeO c' q)) := Ex.new cC
    refine ⟨upd w.C c' (CodeO c' q), ⟨List.prefix_refl _, ex, fun a o z n => ?_, fun a m => .inl m, fun a z z2 => ?_, fun a z => ?_⟩, ⟨fun a o z => ?_, r.len, r.nd, fun a m => ?_, fun n a b z1 z2 => ?_⟩⟩
    · show H1 a = some o
      rw [H1o a (fun y => n (by rw [y]; exact hP)) (fun y => by rw [y, hc] at z; cases z)]
      exact z
    · show upd w.C c' _ a = none
      rw [upd_ne (fun y => z (by rw [y]; exact hc))]
      exact z2
    · show H1 a ≠ none
      by_cases y : a = P
      · rw [y, H1P]; exact fun z => nomatch z
      · rw [H1o a y (fun y => z (by rw [y]; exact hc))]; exact z
    · show H1 a = some o
      replace z : upd w.C c' (CodeO c' q) a = some o := z
      by_cases y : a = c'
      · rw [y, upd_same] at z
        rw [y, H1c]; exact z
      · rw [upd_ne y] at z
        rw [H1o a (fun y2 => by rw [y2, r.ow P hP] at z; cases z) y]
        exact r.ch a o z
    · show upd w.C c' _ a = none
      rw [upd_ne (fun y => nc' (by rw [← y]; exact m))]
      exact r.ow a m
    · by_cases y : a = P
      · subst y
        rw [hq n b z1 z2]
        obtain ⟨ps2, t1, t2, t3⟩ := tb
        rw [H1P] at t1
        cases t1
        refine ⟨_, H1P, .tab t2 fun pos cv hcv => ?_⟩
        obtain ⟨o, g1, g2⟩ := r.ob n a b z1 z2
        rw [hq n b z1 z2] at g2
        cases g2 with
        | tab u1 u2 =>
          rw [hp] at g1
          cases g1
          rcases hold pos cv hcv with v | v
          · obtain ⟨c0, v1, v2⟩ := u2 pos cv v
            exact ⟨c0, v1, ex _ _ v2⟩
          · exact ⟨c', v, upd_same⟩
      · obtain ⟨o, g1, g2⟩ := r.ob n a b z1 z2
        refine ⟨o, ?_, g2.mono (List.prefix_refl _) ex⟩
        show H1 a = some o
        rw [H1o a y (fun y2 => by rw [y2, hc] at g1; cases g1)]
        exact g1
theorem sm_sortLam {K : PySem.W.Frag} {i : Nat} {P : Addr} {q : Str} {lam : Expr} {g : PyData → Option PyData} {te : TE} {me : ME} (ha : SimE K te me) : SimF K (tSortLam K P q lam g te) (mSortLam i P q g me) := fun w h0 σ env xs h' rl re e Q qq => by
  obtain ⟨⟨x, h1⟩, e1, e⟩ := bind_of e
  split at e
  · rename_i hz
    obtain ⟨ys, e2, e⟩ := bind_of e
    obtain ⟨ds, e3, e⟩ := bind_of e
    split at e
    · rename_i hk
      cases e
      obtain ⟨hi, ht⟩ := hz
      replace hi : h1[i]? = some (.tab P q) := hi
      refine ha w h0 σ env x h1 rl re e1 _ fun w1 u s1 r1 rx => ?_
      have hil : i < w1.ι.length := by rw [r1.len]; exact (List.getElem?_eq_some_iff.mp hi).1
      obtain ⟨o, g1, g2⟩ := r1.ob i w1.ι[i] _ (List.getElem?_eq_getElem hil) hi
      have hιP : w1.ι[i] = P := by cases g2; rfl
      rw [hιP] at g1 g2
      have hPm : P ∈ w1.ι := by rw [← hιP]; exact List.getElem_mem hil
      have only : ∀ (n : Nat) (b : Ob), w1.ι[n]? = some P → h1[n]? = some b → b = .tab P q := fun n b z1 z2 => by
        have : n = i := by
          have z3 : w1.ι[i]? = some P := by rw [List.getElem?_eq_getElem hil, hιP]
          exact ((List.getElem?_inj (List.getElem?_eq_some_iff.mp z1).1 r1.nd).mp (z1.trans z3.symm))
        subst this
        rw [hi] at z2
        exact (Option.some.inj z2).symm
      cases g2 with
      | tab u1 u2 =>
        rename_i ps
        refine ⟨⟨ps, g1, u1, fun pos cv hcv => ?_⟩, fun f c' H1 mk tb nf hc' => ?_⟩
        · obtain ⟨c0, v1, v2⟩ := u2 pos cv hcv
          exact ⟨c0, v1, r1.ch _ _ v2⟩
        · obtain ⟨C1, s2, r2⟩ := made_ok r1 hPm mk tb only
          obtain ⟨s3, r3⟩ := fresh_ok (o := LamO f c' q (lamArgs lam) (lamBody lam) (lamScope lam)) r2 nf
          have s23 := s2.trans s3
          obtain ⟨p, vs, hu, sq, rp⟩ := items_L r3 (rx.up s23) e2 ht
          rw [allD_eq e3] at rp
          have nfc : c' ≠ f := fun z => by rw [z, nf] at hc'; cases hc'
          refine ⟨C1, f, c', p, vs, ds, by rw [hu], rfl, upd_same, by rw [upd_ne nfc]; exact hc', r3.ch, sq, rp.toD, hk, fun zs a hd hn => ?_⟩
          obtain ⟨s4, r4⟩ := fresh_ok (o := .lst zs) r3 hn
          have sA := (s1.trans s23).trans s4
          have hq0 : w.H a = none := by
            cases z : w.H a with
            | none => rfl
            | some o => exact absurd hn ((s1.trans s23).kp a (by rw [z]; exact fun q => nomatch q))
          exact qq _ a _ sA r4 hq0 upd_same (r3.notin hn) (r3.cnone hn) (RepA.ofD hd)
    · cases e
  · cases e
/-! ### defs that make lambdas, and the end -/
theorem Fun.okC {P : Program} {w : World} {K : PySem.W.Frag} {mg : Str → Option Value} {base : Heap} {x qual : Str} {st : Stmt} {f : Addr} {fd : FuncData} {N ps : List Str} {k : Nat} {sp : Sp} (F : Fun K x qual st f fd) (S : FnScope N ps (defScope st)) (len : ∀ vs H Q E, sp vs H Q E → vs.length = ps.length)
    (hbody : ∀ (A : Around) (outer : List PySem.Env) (s : Shared) (H : Hp) (vs : List V) (Q : VK) (E : XK), Room k (A.deeper (envOfC qual (defScope st) s.heap.objs.size f fd.code)) → sp vs H Q E →
      ∃ t, PSs (cxOf CX0 P w K mg base N qual (defScope st) f fd.code A outer s H E).nox (defBody st) t ∧ t { nx := fun _ H' => Q .non H', rt := Q } (L2.start N vs) H) : FnOk P w K mg base CX0 (k + 1) f fd ps sp := by
  obtain ⟨oc, od, kV, doc, pm, an, cdv, ct, osl, rfl, lk, hcd⟩ := F.ex
  refine fn_of lk hcd S len fun A outer s H vs Q E hr hsp => ?_
  obtain ⟨t, h, q⟩ := hbody A outer s H vs Q E hr hsp
  exact ⟨t, h.nox, q⟩
theorem fn_okHC {P : Program} {w : World} {K : PySem.W.Frag} {mg : Str → Option Value} {base : Heap} {x qual : Str} {st : Stmt} {f : Addr} {fd : FuncData} {N ps : List Str} {k : Nat} {tr : TS} {ms : MS} {np nN : Nat} (F : Fun K x qual st f fd) (S : FnScope N ps (defScope st)) (hnp : ps.length = np) (hN : N.length = nN)
    (pst : ∀ (A : Around) (outer : List PySem.Env) (s : Shared) (H : Hp) (E : XK), Room k (A.deeper (envOfC qual (defScope st) s.heap.objs.size f fd.code)) → PSs (cxOf CX0 P w K mg base N qual (defScope st) f fd.code A outer s H E).nox (defBody st) tr)
    (hs : SimS K tr ms) : FnOk P w K mg base CX0 (k + 1) f fd ps (spH K (toHeap np nN ms)) := by
  refine Fun.okC F S (fun vs H Q E h => ?_) (fun A outer s H vs Q E hr h => ⟨_, pst A outer s H E hr, ?_⟩)
  · obtain ⟨wd, h, xs, v, h', _, _, ra, e, _⟩ := h
    rw [ra.len, toHeap_len e, hnp]
  · obtain ⟨wd, h, xs, v, h', rfl, rl, ra, e, q⟩ := h
    exact run_ok hs rl ra e hN q
end M
namespace M
open PySem PySem.Spec PyProof.Rows L2
open Evl (Ex ex_rd ex_l ex_t rMax2)
open LamX (TabS TabB CodeO)
/-! ### the end of a law whose program makes lambdas -/
theorem sp_start {K : PySem.W.Frag} {f : MCa} {cs : List (Addr × Str)} {H : Hp} {a : Addr} {ns : List Int} {Q : VK} {E : XK} (hH : ∀ p ∈ cs, H p.1 = some (.tbl #[])) (nd : (cs.map (·.1)).Nodup) (hS : SqL K H a (ns.map V.int))
    (tell : ∃ h', f [.d (.list (ns.map .int))] (cs.map fun p => .tab p.1 p.2) = some (.d (.bool true), h')) (hQ : ∀ H', Q (.bl true) H') : spH K f [.ref a] H Q E := by
  obtain ⟨h', e⟩ := tell
  obtain ⟨C, hC⟩ : ∃ C : Hp, C = fun b => if b ∈ cs.map (·.1) then none else H b := ⟨_, rfl⟩
  have isT : ∀ b, b ∈ cs.map (·.1) → H b = some (.tbl #[]) := fun b hb => by
    obtain ⟨p, hp, e⟩ := List.mem_map.mp hb
    rw [← e]; exact hH p hp
  have eC : ∀ b o, H b = some o → (∀ ps, o ≠ .tbl ps) → C b = some o := fun b o z n => by
    rw [hC]
    show (if b ∈ cs.map (·.1) then none else H b) = some o
    rw [if_neg fun m => n #[] (by rw [isT b m] at z; exact (Option.some.inj z).symm)]
    exact z
  have hSC : SqL K C a (ns.map V.int) := by
    rcases hS with (z | ⟨ob, z⟩) | z
    · exact .inl (.inl (eC _ _ z fun ps y => nomatch y))
    · exact .inl (.inr ⟨ob, eC _ _ z fun ps y => nomatch y⟩)
    · exact .inr z
  refine ⟨⟨cs.map (·.1), C, H⟩, _, [.d (.list (ns.map .int))], .d (.bool true), h', rfl, ⟨fun b o z => ?_, by simp, nd, fun b m => ?_, fun n b ob z1 z2 => ?_⟩, .cons (.d (.lst hSC G.dpa_ints)) .nil, e, fun w' u _ _ ru => ?_⟩
  · rw [hC] at z
    replace z : (if b ∈ cs.map (·.1) then none else H b) = some o := z
    split at z
    · cases z
    · exact z
  · rw [hC]
    exact if_pos m
  · rw [List.getElem?_map] at z1 z2
    cases y : cs[n]? with
    | none => rw [y] at z1; cases z1
    | some p =>
      rw [y] at z1 z2
      cases z1
      cases z2
      exact ⟨_, hH p (List.mem_of_getElem? y), .tab True.intro fun pos cv hcv => by
        replace hcv : codeAmong pos [] = some cv := hcv
        simp [codeAmong] at hcv⟩
  · cases ru with
    | d h => cases h; exact hQ _
theorem walk_ofL {l : PySem.W.OpenLaw} {n k : Nat} {q : Program} {loose : List Str} {XP : (Str → Option Value) → Heap → Prop} {YP : World → Heap → Prop} {d : DefRec} {K : Params → PySem.W.Frag} {CX : World → CXT} {x : Str}
    (hmost : l.most = some n) (hsize : n ≤ sizeLine) (hnodef : d.params.defaults = []) (hroom : Room k callerA) (hin : ∀ (w : World) (h : Heap), YP w h → (K w.params).In h)
    (F : ∀ (w : World) (mg : Str → Option Value) (fa : Addr) (h : Heap), YP w h → (K w.params).In h → h.Ns mainGlobals mg → mg d.name = some (.ref fa) → (∀ nm : Str, ((recsOf q).any fun e => e.name == nm) = true → ∀ ga, mg nm = some (.ref ga) → LamX.OwnTab (K w.params) ga h) → LamX.LawAtS l w (K w.params) (CX w) k n x mg fa h)
    (hnox : ∀ (w : World) (H : Hp) (s : Shared) (e : Value) (s' : Shared), CX w [] H s (fun _ _ _ => False) e s' → False) :
    PySem.W.WalkO q loose XP YP l.row.toRowW d [] (fun f vs => PySem.call f vs) := by
  refine Att.attach_callB hmost hnodef fun w s0 s1 mg mb fa ob pm cd doc a vs ns top yp hob hdat hcode hname hlist hnums hlen hbits hgens => ?_
  have inK := hin w _ yp
  have own : ∀ nm : Str, ((recsOf q).any fun e => e.name == nm) = true → ∀ ga, mg nm = some (.ref ga) → LamX.OwnTab (K w.params) ga s1.heap := fun nm hnm ga hga c P o1 f1 e1 dd us sl k1 k2 k3 k4 k5 => by
    obtain ⟨r, hr, hrn⟩ := List.any_eq_true.mp hnm
    obtain ⟨a2, o2, f2, c2, P2, g1, g2, g3, g4, g5, g6⟩ := top.T.tab r hr
    rw [beq_iff_eq.mp hrn, hga] at g1
    cases g1
    have z := inK _ _ k1
    rw [g2] at z
    cases z
    rw [k2] at g3
    cases g3
    rw [k3] at g4
    cases g4
    obtain ⟨⟨oc, vc, y1, _, y3, y4⟩, yP⟩ := g6
    have z2 := inK _ _ k4
    rw [y1] at z2
    cases z2
    cases y3
    rw [k5] at y4
    cases y4
    exact yP
  obtain ⟨fd, cs, sp, hT, nT, hC, hb, hsp, hF⟩ := F w mg fa _ yp inK top.T.g hname own
  exact LamX.law_callTs inK top.T.g top.T.b top.T.builtins top.T.nolimit hgens hT nT hC top.T.bmain hlist hnums (Nat.le_trans hlen hsize) hroom hF hb (fun H hH hS => hsp H a ns hlen hbits hH hS) fun H e s' => hnox w H s1 e s'
end M
namespace M
open PySem PySem.Spec PyProof.Rows L2
open Evl (Ex ex_rd ex_l ex_t rMax2)
open G (dpx dpax dpa_len ex_none)
/-! ### dict(pairs) with tuples as keys, known by its values; list(d.values()) -/
theorem dvP_ok {P : Program} {w : World} {H : Hp} {h : Heap} {a : Addr} {vs : List V} (x : dvP a vs h) : ObjOk P w H h a (.ext (dvP a vs)) :=
  ⟨x, (let ⟨_, _, o, _, _, e, _⟩ := x; ⟨o, e⟩), fun h1 h2 y k => let ⟨y1, y2, o, es, ep, e, r⟩ := y; ⟨y1, y2, o, es, ep, k o e, r⟩⟩
inductive PairsV (K : PySem.W.Frag) (H : Hp) : List V → List (List Key × V) → Prop
  | nil : PairsV K H [] []
  | cons {t b : Addr} {v : V} {ks : List Key} {vs : List V} {qs : List (List Key × V)} : SqT K H t [.ref b, v] → SqT K H b (ks.map kV) → PairsV K H vs qs → PairsV K H (.ref t :: vs) ((ks, v) :: qs)
def rDictP (K : PySem.W.Frag) : List V → Hp → VK → Prop := fun xs H Q => ∃ p vs qs, xs = [.ref p] ∧ SqL K H p vs ∧ PairsV K H vs qs ∧ (qs.map (·.1)).Nodup ∧ ∀ a, H a = none → Q (.ref a) (upd H a (.ext (dvP a (qs.map (·.2)))))
section
variable {X : Cx}
theorem pairsV_conc {pins : List (Addr × Obj)} {s : Shared} {σ : L2.St} {H : Hp} (I : Inv X pins σ H s) : ∀ {vs : List V} {qs : List (List Key × V)} {its : List Value}, PairsV X.K H vs qs → Vals vs its →
    ∃ (ps : List (List Key × Addr × Value)) (ts : List Addr), its = ts.map Value.ref ∧ ts.length = ps.length ∧ ps.map (·.1) = qs.map (·.1) ∧ Vals (qs.map (·.2)) (ps.map (·.2.2)) ∧ (∀ x ∈ ps, (tupleKind (mixKind X.prog X.w)).is s.heap x.1 x.2.1) ∧
      ∀ (j : Nat) (t : Addr) (x : List Key × Addr × Value), ts[j]? = some t → ps[j]? = some x → s.heap.IsTuple t #[.ref x.2.1, x.2.2]
  | _, _, _, .nil, .nil => ⟨[], [], rfl, rfl, rfl, .nil, (fun _ h => nomatch h), fun j t x e => by simp at e⟩
  | _, _, _, .cons (t := t) (b := b) (v := v) (ks := ks) h1 h2 h3, .cons (l₂ := its) r1 r2 => by
    obtain ⟨ps, ts, e1, e2, e3, e4, e5, e6⟩ := pairsV_conc I h3 r2
    cases r1
    obtain ⟨i1, u1, p1, _⟩ := I.tuple h1
    obtain ⟨i2, u2, p2, _⟩ := I.tuple h2
    obtain ⟨x1, x2, rfl, y1, y2⟩ := u1.two
    cases y1
    refine ⟨(ks, b, x2) :: ps, t :: ts, by rw [e1]; rfl, by simp [e2], by simp [e3], .cons y2 e4, fun x hx => ?_, fun j t' x z1 z2 => ?_⟩
    · rcases List.mem_cons.mp hx with rfl | hx
      · obtain ⟨o, g1, g2, n, g3⟩ := p2
        exact ⟨o, i2.toArray, n, g1, g2, g3, by simpa using items_are u2⟩
      · exact e5 x hx
    · cases j with
      | zero =>
        simp at z1 z2
        subst z1; subst z2
        obtain ⟨o, g1, g2, n, g3⟩ := p1
        exact ⟨o, g1, g2, n, g3⟩
      | succ j => exact e6 j t' x (by simpa using z1) (by simpa using z2)
theorem cr_dictP {k : Nat} (hr : Room k X.A) : CallR X (.type "dict") (rDictP X.K) := by
  intro pins s σ H xs us Q I r h
  obtain ⟨p, vs, qs, rfl, hl, hp, hn, q⟩ := h
  obtain ⟨u, rfl, rx⟩ := r.one
  cases rx
  obtain ⟨its, rv, pl, hz⟩ := I.list hl
  obtain ⟨ps, ts, e1, e2, e3, e4, e5, e6⟩ := pairsV_conc I hp rv
  have hlen : vs.length = ps.length := by rw [rv.length, e1, List.length_map, e2]
  have hnd : (ps.map (·.1)).Nodup := by rw [e3]; exact hn
  obtain ⟨o, n, g1, g2, g3, g4⟩ := pl
  refine call_dict_pairsH (knd := tupleKind (mixKind X.prog X.w)) (ps := ps) (PairArg.list p its.toArray (fun j => (ts[j]?).getD 0) (ps.map fun x => (Value.ref x.2.1, x.2.2))) hr.hd (by have := hr.un; show X.A.units + 2 < cLine; omega) ⟨⟨o, n, g1, g2, g3, g4⟩, ?_, ?_⟩ ⟨by simp, ?_⟩ ?_ (by simp; omega) ?_
  · simp [e1, e2]
  · intro j k' v' hj
    obtain ⟨x, hx, hx2⟩ := by rw [List.getElem?_map] at hj; exact Option.map_eq_some_iff.mp hj
    cases hx2
    have hjl : j < ts.length := by rw [e2]; exact (List.getElem?_eq_some_iff.mp hx).1
    refine ⟨?_, .inl ?_⟩
    · rw [List.getElem?_toArray, e1, List.getElem?_map, List.getElem?_eq_getElem hjl]
      show _ = some (Value.ref ((ts[j]?).getD 0))
      rw [List.getElem?_eq_getElem hjl]
      rfl
    · have : ts[j]? = some ts[j] := List.getElem?_eq_getElem hjl
      show s.heap.IsTuple ((ts[j]?).getD 0) _
      rw [this]
      exact e6 j _ x this hx
  · intro i key v hrel
    obtain ⟨x, hx, hx2⟩ := by
      replace hrel : (ps.map fun x => (Value.ref x.2.1, x.2.2))[i]? = some (key, v) := hrel
      rw [List.getElem?_map] at hrel; exact Option.map_eq_some_iff.mp hrel
    cases hx2
    exact ⟨x.1, x.2.1, hx, rfl⟩
  · intro h' hk x hx
    obtain ⟨o', its', n', g1', g2', g3', g4'⟩ := e5 x hx
    exact ⟨o', its', n', hk _ _ (Nat.ne_of_lt (Heap.lt_size g1')) (fun z => nomatch z) g1', g2', g3', g4'⟩
  · intro h' tk hd' hk
    rw [storedAllH_nil_of_nodup ps hnd] at hd'
    obtain ⟨o', es, ep, d1, d2, d3, d4, _, _⟩ := hd'
    refine ⟨.ref s.heap.objs.size, _, I.laid (t' := tk) (o := .ext (dvP s.heap.objs.size (qs.map (·.2)))) (fun b u e => hk b u (fun z => nomatch z) e) (Nat.le_refl _) (dvP_ok ⟨?_, ?_, o', es, ep, d1, d2, d3, ?_⟩), rfl, q _ (I.hok.fresh (Nat.le_refl _))⟩
    · have := I.big
      simp only [beq_eq_false_iff_ne, ne_eq]
      exact Nat.ne_of_gt this
    · have z1 : (qs.map (·.2)).length = ps.length := by
        have := congrArg List.length e3
        simpa using this.symm
      rw [z1, ← hlen]; exact hz
    · have : es.toList.map (·.val) = ps.map (·.2.2) := by
        rw [d4, List.map_map]
        rfl
      rw [this]
      exact e4
def viewO (p a : Addr) : HO := .ext fun h => h.IsValuesView p a
def rVals : V → List V → Hp → VK → Prop := fun x xs H Q => ∃ a vs, x = .ref a ∧ xs = [] ∧ H a = some (.ext (dvP a vs)) ∧ ∀ p, H p = none → Q (.ref p) (upd H p (viewO p a))
theorem mt_vals : MtR X "dict.values" rVals := by
  intro pins s σ H x xs v us Q I rx rxs h
  obtain ⟨a, vs, rfl, rfl, ha, q⟩ := h
  cases rx
  cases rxs
  obtain ⟨⟨y1, y2, o, es, ep, e, ex, dd, _⟩, _⟩ := (show ObjOk X.prog X.w H s.heap a (.ext (dvP a vs)) from I.hok a _ ha)
  refine call_meetsIn PySem.F.slot_dict_values ⟨o, e, ex.1⟩ PySem.F.entry_dict_values (PySem.F.args_dict_values_1 _) (meets_dict_values_raw a y1) ⟨⟨es, ep, o, e, ex, dd⟩, ?_⟩
  have hf : H s.heap.objs.size = none := I.hok.fresh (Nat.le_refl _)
  exact ⟨.ref s.heap.objs.size, upd H s.heap.objs.size (viewO s.heap.objs.size a), I.laid (t' := s.toks) (fun b u e => Heap.get?_push_of_some _ e) (Nat.le_refl _) ⟨⟨_, Heap.get?_push_size _ rfl, rfl, rfl⟩, ⟨_, Heap.get?_push_size _ rfl⟩, fun h1 h2 x k => let ⟨o, ho, r⟩ := x; ⟨o, k o ho, r⟩⟩, rfl, q _ hf⟩
def tVals (to : TE) : TE := fun σ H Q => to σ H fun x H1 => rVals x [] H1 Q
theorem pe_vals {o : Expr} {to : TE} {apos cpos : Pos} (ho : PE X o to) (hbase : attributeBase o "values" X.env (eval o X.env) = eval o X.env := by rfl) (hline : (apos.endLine == cpos.line) = true := by rfl) : PE X (.Call (.Attribute o "values" apos) [] [] cpos) (tVals to) := by
  refine ⟨fun pins s σ H Q I h => ?_⟩
  refine wpAny_Call_method0_late hbase hline (thn (ho.run pins s σ H _ I h) fun v s1 ⟨x, H1, I1, r1, q1⟩ => ?_)
  obtain ⟨a, vs, rfl, _, ha, q2⟩ := id q1
  cases r1
  obtain ⟨⟨y1, y2, ob, es, ep, e, ex, dd, _⟩, _⟩ := (show ObjOk X.prog X.w H1 s1.heap a (.ext (dvP a vs)) from I1.hok a _ ha)
  exact ⟨"dict", "dict.values", PySem.F.plainAttrs_dict, PySem.F.slot_dict_values, PySem.F.type_dict_values, ⟨ob, e, ex.1⟩, (fun b eb => by cases eb; exact ⟨ob, e, ex.2.1⟩), Calls.callWith_builtin rfl (PySem.evalArgs_none (mt_vals pins s1 σ H1 (.ref a) [] (.ref a) [] Q I1 rfl .nil q1))⟩
def rListV : List V → Hp → VK → Prop := fun xs H Q => ∃ p a vs, xs = [.ref p] ∧ H p = some (viewO p a) ∧ H a = some (.ext (dvP a vs)) ∧ ∀ l, H l = none → Q (.ref l) (upd H l (.lst vs))
theorem cr_listV {k : Nat} (hr : Room k X.A) : CallR X (.type "list") rListV := by
  intro pins s σ H xs us Q I r h
  obtain ⟨p, a, vs, rfl, hp, ha, q⟩ := h
  obtain ⟨u, rfl, rx⟩ := r.one
  cases rx
  obtain ⟨⟨y1, y2, o, es, ep, e, ex, dd, rv⟩, _⟩ := (show ObjOk X.prog X.w H s.heap a (.ext (dvP a vs)) from I.hok a _ ha)
  obtain ⟨hv, _⟩ := (show ObjOk X.prog X.w H s.heap p (viewO p a) from I.hok p _ hp)
  have hl : vs.length = es.size := by rw [rv.length]; simp
  refine PySem.W.kdl_call (PySem.KdlSrc.rawValues (ep := ep)) hr.hd ⟨hv, o, e, ex, dd⟩ (by omega) fun h' tk acc' c' kp e' it => ?_
  have ea : acc'.toList = es.toList.map (·.val) := by
    apply List.ext_getElem?
    intro j
    rw [List.getElem?_map]
    cases hj : acc'.toList[j]? with
    | none =>
      have h1 := List.getElem?_eq_none_iff.mp hj
      rw [Array.length_toList, it.1] at h1
      rw [List.getElem?_eq_none (by rw [Array.length_toList]; exact h1)]
      rfl
    | some v =>
      obtain ⟨hi, hv'⟩ := it.2 j v (by rw [← Array.getElem?_toList]; exact hj)
      rw [List.getElem?_eq_getElem (by rw [Array.length_toList]; exact hi), hv']
      simp
  refine ⟨.ref s.heap.objs.size, _, I.laid (t' := tk) (o := .lst vs) kp (Nat.le_refl _) ?_, rfl, q _ (I.hok.fresh (Nat.le_refl _))⟩
  exact ⟨y2, acc'.toList, c', by rw [ea]; exact rv, by rw [Array.toArray_toList]; exact e'⟩
end
/-! ### in the model -/
def keysOf : List PyData → Option (List Key)
  | [] => some []
  | .int i :: r => (keysOf r).map (Sum.inl i :: ·)
  | .str s :: r => (keysOf r).map (Sum.inr s :: ·)
  | _ => none
def pairsD : List PyData → Option (List (List Key × PyData))
  | [] => some []
  | .tuple [.tuple ks, v] :: r => (keysOf ks).bind fun k => (pairsD r).map ((k, v) :: ·)
  | _ => none
theorem keysOf_ok {K : PySem.W.Frag} {C : Hp} : ∀ {ds : List PyData} {ks : List Key} {vs : List V}, keysOf ds = some ks → DpAll K C vs ds → vs = ks.map kV
  | [], ks, vs, e, h => by cases e; cases h; rfl
  | .int i :: r, ks, vs, e, h => by
    obtain ⟨k', e1, e2⟩ := map_of e
    cases e2
    cases h with
    | cons h1 h2 => cases h1; rw [keysOf_ok e1 h2]; rfl
  | .str s :: r, ks, vs, e, h => by
    obtain ⟨k', e1, e2⟩ := map_of e
    cases e2
    cases h with
    | cons h1 h2 => cases h1; rw [keysOf_ok e1 h2]; rfl
  | .none :: _, _, _, e, _ => by cases e
  | .bool _ :: _, _, _, e, _ => by cases e
  | .list _ :: _, _, _, e, _ => by cases e
  | .tuple _ :: _, _, _, e, _ => by cases e
  | .dict _ :: _, _, _, e, _ => by cases e
theorem pairsD_ok {K : PySem.W.Frag} {C H : Hp} (hx : Ex C H) : ∀ {ds : List PyData} {qs : List (List Key × PyData)} {vs : List V}, pairsD ds = some qs → DpAll K C vs ds → ∃ ws, PairsV K H vs ws ∧ ws.map (·.1) = qs.map (·.1) ∧ DpAll K C (ws.map (·.2)) (qs.map (·.2)) := by
  intro ds
  induction ds with
  | nil => intro qs vs e h; cases e; cases h; exact ⟨[], .nil, rfl, .nil⟩
  | cons d r ih =>
    intro qs vs e h
    unfold pairsD at e
    split at e
    · rename_i z; cases z
    · rename_i ks v r' z
      cases z
      obtain ⟨k, e1, e⟩ := bind_of e
      obtain ⟨q', e2, e⟩ := map_of e
      cases e
      cases h with
      | cons h1 h2 =>
        obtain ⟨ws, w1, w2, w3⟩ := ih e2 h2
        cases h1 with
        | tup s1 a1 =>
          cases a1 with
          | cons b1 b2 =>
            cases b2 with
            | cons b2 b3 =>
              cases b3
              cases b1 with
              | tup s2 a2 =>
                have := keysOf_ok e1 a2
                subst this
                exact ⟨_ :: ws, .cons (ex_t hx s1) (ex_t hx s2) w1, by simp [w2], .cons b2 w3⟩
    · cases e
def mDictP : MCa := fun xs h => (arg1 xs).bind fun x => if isT x = false then (itemsOf h x).bind fun ys => (allD ys).bind fun ds => (pairsD ds).bind fun qs => if (qs.map (·.1)).Nodup then some (.ref h.length, h ++ [.dv ((qs.map (·.2)).map .d)]) else none else none
theorem sc_dictP {K : PySem.W.Frag} : SimC K (rDictP K) mDictP := fun w h us xs v h' rl ra e Q q => by
  obtain ⟨x, e1, e⟩ := bind_of e
  split at e
  · rename_i ht
    obtain ⟨ys, e2, e⟩ := bind_of e
    obtain ⟨ds, e3, e⟩ := bind_of e
    obtain ⟨qs, e4, e⟩ := bind_of e
    split at e
    · rename_i hn
      cases e
      rw [arg1_of e1] at ra
      obtain ⟨u, rfl, rx⟩ := ra.one
      obtain ⟨p, vs, rfl, sq, rp⟩ := items_L rl rx e2 ht
      rw [allD_eq e3] at rp
      obtain ⟨ws, w1, w2, w3⟩ := pairsD_ok rl.ch e4 rp.toD
      refine ⟨p, vs, ws, rfl, sq, w1, by rw [w2]; exact hn, fun a ha => ?_⟩
      obtain ⟨s, r, g⟩ := alloc_ok (o := .ext (dvP a (ws.map (·.2)))) (b := .dv ((qs.map (·.2)).map .d)) rl ha (.dv ((RepA.ofD w3).mono (List.prefix_append _ _) fun _ _ z => z))
      exact q (w.alloc a _) (.ref a) s r (.ref g)
    · cases e
  · cases e
def asDv (h : MH) : MV → Option (List MV)
  | .ref n => match h[n]? with
    | some (.dv xs) => some xs
    | _ => none
  | _ => none
theorem asDv_of {h : MH} {v : MV} {xs : List MV} (e : asDv h v = some xs) : ∃ n, v = .ref n ∧ h[n]? = some (.dv xs) := by
  cases v with
  | ref m =>
    unfold asDv at e
    cases e1 : h[m]? with
    | none => simp only [e1] at e; cases e
    | some b =>
      cases b with
      | dv ys => simp only [e1] at e; cases e; exact ⟨m, rfl, e1⟩
      | lst _ => simp only [e1] at e; cases e
      | dct _ => simp only [e1] at e; cases e
      | dctT _ => simp only [e1] at e; cases e
      | tab _ _ => simp only [e1] at e; cases e
  | d _ => cases e
  | tup _ => cases e
def tListVals (to : TE) : TE := tCB rListV (tCons (tVals to) tNil)
def mListVals (me : ME) : MA := fun env h => (me env h).bind fun r => (asDv r.2 r.1).map fun xs => (xs, r.2)
theorem pe_listVals {X : Cx} {k : Nat} {o : Expr} {to : TE} {p pos apos cpos : Pos} (hr : Room k X.A) (hg : Gl X "list") (hm : X.mg "list" = none) (ho : PE X o to) (hbase : attributeBase o "values" X.env (eval o X.env) = eval o X.env) (hline : (apos.endLine == cpos.line) = true)
    (h1 : starEach [(.Call (.Attribute o "values" apos) [] [] cpos)] X.env = (false, eval (.Call (.Attribute o "values" apos) [] [] cpos) X.env) :: starEach [] X.env) (h2 : (backTo pos (starEach [] X.env)).any (·.1) = false) : PE X (.Call (.Name "list" p) [.Call (.Attribute o "values" apos) [] [] cpos] [] pos) (tListVals to) :=
  pe_callTy (cr_listV hr) hg hm (by decide +kernel) (pa_cons (pe_vals ho hbase hline) pa_nil)
theorem sm_listVals {K : PySem.W.Frag} {te : TE} {me : ME} (ha : SimE K te me) : SimF K (tListVals te) (mListVals me) := fun w h0 σ env xs h' rl re e Q qq => by
  obtain ⟨⟨x, h1⟩, e1, e⟩ := bind_of e
  obtain ⟨ys, e2, e⟩ := map_of e
  cases e
  refine ha w h0 σ env x _ rl re e1 _ fun w1 u s1 r1 rx => ?_
  obtain ⟨n, rfl, en⟩ := asDv_of e2
  obtain ⟨a, o, z1, z2, z3, z4⟩ := r1.look rx en
  cases z4 with
  | dv z4 =>
    rename_i vs
    refine ⟨a, vs, z1, rfl, z3, fun p hp => ?_⟩
    obtain ⟨s2, r2⟩ := fresh_ok (o := viewO p a) r1 hp
    have nap : a ≠ p := fun z => by rw [z, hp] at z3; cases z3
    refine ⟨p, a, vs, rfl, upd_same, by rw [upd_ne nap]; exact z3, fun l hl => ?_⟩
    obtain ⟨s3, r3⟩ := fresh_ok (o := .lst vs) r2 hl
    have sA := (s1.trans s2).trans s3
    have hq0 : w.H l = none := by
      cases z : w.H l with
      | none => rfl
      | some o => exact absurd hl ((s1.trans s2).kp l (by rw [z]; exact fun q => nomatch q))
    exact qq _ l _ sA r3 hq0 upd_same (r2.notin hl) (r2.cnone hl) (z4.mono (List.prefix_refl _) (fun _ _ z => z))
end M
namespace M
open PySem PySem.Spec PyProof.Rows L2
open Evl (Ex ex_rd ex_l ex_t rMax2)
open G (dpx dpax dpa_len ex_none)
/-! ### a dict of the module with text keys -/
inductive TabIs (K : PySem.W.Frag) : List DictEntry → List (Str × PyData) → Prop
  | nil : TabIs K [] []
  | cons {i : Int} {x : Str} {t : Tok} {u : Value} {d : PyData} {es : List DictEntry} {tab : List (Str × PyData)} : GlV K u d → TabIs K es tab → TabIs K (⟨i, .str x t, u⟩ :: es) ((x, d) :: tab)
def TabAt (K : PySem.W.Frag) (a : Addr) (tab : List (Str × PyData)) : Prop := ∀ z, match valG tab z with
  | some d => ∃ u, PySem.W.nsIn K a z = some (some u) ∧ GlV K u d
  | none => PySem.W.nsIn K a z = some none
theorem tabIs_find {K : PySem.W.Frag} (z : Str) : ∀ {es : List DictEntry} {tab : List (Str × PyData)}, TabIs K es tab → (match es.find? (·.key.isStr z) with
    | some e => ∃ d, valG tab z = some d ∧ GlV K e.val d
    | none => valG tab z = none) ∧ es.any (·.refKey) = false
  | _, _, .nil => ⟨rfl, rfl⟩
  | _, _, .cons (x := x) (t := t) (u := u) (d := d) (tab := tab) g r => by
    obtain ⟨h1, h2⟩ := tabIs_find z r
    refine ⟨?_, by rw [List.any_cons, h2]; rfl⟩
    rw [List.find?_cons, valG]
    by_cases e : x = z
    · subst e
      rw [show (Value.str x t).isStr x = true by simp [Value.isStr]]
      simp only [if_true]
      exact ⟨d, rfl, g⟩
    · rw [show (Value.str x t).isStr z = false by simp [Value.isStr, e]]
      rw [if_neg e]
      exact h1
theorem tabAt_of {K : PySem.W.Frag} {a : Addr} {es : Array DictEntry} {n : Nat} {od : Option Addr} {c : Value} {sl : Array (Option Value)} {tab : List (Str × PyData)} (h : K.lookup a = some ⟨c, od, .dict es n, sl⟩) (t : TabIs K es.toList tab) : TabAt K a tab := fun z => by
  obtain ⟨h1, h2⟩ := tabIs_find z t
  unfold PySem.W.nsIn
  rw [h]
  cases e : es.toList.find? (·.key.isStr z) with
  | some en =>
    rw [e] at h1
    obtain ⟨d, g1, g2⟩ := h1
    rw [g1]
    exact ⟨en.val, by simp only [e], g2⟩
  | none =>
    rw [e] at h1
    replace h1 : valG tab z = none := h1
    rw [h1]
    simp only [e, h2]
    rfl
def GlT (w : World) (K : PySem.W.Frag) (mg : Str → Option Value) (x : Str) (tab : List (Str × PyData)) : Prop := ∃ d es n, mg x = some (.ref d) ∧ KDict K w d es n ∧ TabAt K d tab
def tKIx (K : PySem.W.Frag) (tab : List (Str × PyData)) (te : TE) : TE := fun σ H Q => te σ H fun y H1 => ∃ z d, y = .str z ∧ valG tab z = some d ∧ ∀ v, (∀ C, Dp K C v d) → Q v H1
def tKIn (neg : Bool) (tab : List (Str × PyData)) (te : TE) : TE := fun σ H Q => te σ H fun y H1 => ∃ z, y = .str z ∧ Q (.bl (if neg = true then !(valG tab z).isSome else (valG tab z).isSome)) H1
section
variable {X : Cx} {x : Str} {tab : List (Str × PyData)} {i : Expr} {te : TE} {p pos : Pos}
theorem pe_glR {d : Addr} (hg : Gl X x) (hm : X.mg x = some (.ref d)) (hd : (x == ("__debug__" : Str)) = false) : PE X (.Name x pos) (fun _ H Q => Q (.ref d) H) :=
  ⟨fun _ _ _ H _ I q => ld_glob I hg hm ⟨.ref d, H, I, rfl, q⟩ hd⟩
theorem pe_kix (hg : Gl X x) (G : GlT X.w X.K X.mg x tab) (hi : PE X i te) (hs : NoSl i) (hd : (x == ("__debug__" : Str)) = false := by decide) : PE X (.Subscript (.Name x p) i pos) (tKIx X.K tab te) := by
  obtain ⟨d, es, n, hm, D, T⟩ := G
  have ho : PE X (.Name x p) (fun _ H Q => Q (.ref d) H) := pe_glR hg hm hd
  refine ⟨fun pins s σ H Q I h => ?_⟩
  refine subD_of PySem.F.slot_dict_getitem.lookup hs (thn (ho.run pins s σ H (fun y H1 => y = .ref d ∧ H1 = H) I ⟨rfl, rfl⟩) fun u s1 ⟨y0, H1, I1, rx, e1, e2⟩ => ?_)
  subst e1
  subst e2
  obtain rfl : u = Value.ref d := rx
  refine thn (hi.run pins s1 σ _ _ I1 h) fun iv s2 ⟨y, H2, I2, ry, z, dd, ey, g, q2⟩ => ?_
  subst ey
  have tz := T z
  rw [g] at tz
  obtain ⟨u0, g1, v0, g2, g3⟩ := tz
  exact ⟨kd_type D I2, op_item_kd D pins s2 σ H2 (.ref d) (.str z) (.ref d) iv Q I2 rfl ry ⟨z, u0, v0, rfl, rfl, g1, g2, q2 v0 g3⟩⟩
theorem ns_some {K : PySem.W.Frag} {d : Addr} (T : TabAt K d tab) (z : Str) : ∃ r, PySem.W.nsIn K d z = some r ∧ r.isSome = (valG tab z).isSome := by
  have tz := T z
  cases e : valG tab z with
  | some dd =>
    rw [e] at tz
    obtain ⟨u, g, _⟩ := tz
    exact ⟨some u, g, rfl⟩
  | none =>
    rw [e] at tz
    exact ⟨none, tz, rfl⟩
theorem pc_kin (hg : Gl X x) (G : GlT X.w X.K X.mg x tab) (hi : PE X i te) (hd : (x == ("__debug__" : Str)) = false := by decide) : PC X .In i (.Name x p) (tKIn false tab te) := by
  obtain ⟨d, es, n, hm, D, T⟩ := G
  have ho : PE X (.Name x p) (fun _ H Q => Q (.ref d) H) := pe_glR hg hm hd
  refine ⟨fun pins s σ H Q I h => ?_⟩
  refine thn (hi.run pins s σ H _ I h) fun iv s1 ⟨y, H1, I1, ry, z, ey, q1⟩ => thn (ho.run pins s1 σ H1 (fun y0 H2 => y0 = .ref d ∧ H2 = H1) I1 ⟨rfl, rfl⟩) fun u s2 ⟨y0, H2, I2, rx, e1, e2⟩ => ?_
  subst e1
  subst e2
  subst ey
  obtain ⟨r, g1, g2⟩ := ns_some T z
  exact op_in_kd D pins s2 σ _ (.str z) (.ref d) iv u Q I2 ry rx ⟨z, r, rfl, rfl, g1, by rw [g2]; exact q1⟩
theorem pc_knotin (hg : Gl X x) (G : GlT X.w X.K X.mg x tab) (hi : PE X i te) (hd : (x == ("__debug__" : Str)) = false := by decide) : PC X .NotIn i (.Name x p) (tKIn true tab te) := by
  obtain ⟨d, es, n, hm, D, T⟩ := G
  have ho : PE X (.Name x p) (fun _ H Q => Q (.ref d) H) := pe_glR hg hm hd
  refine ⟨fun pins s σ H Q I h => ?_⟩
  refine thn (hi.run pins s σ H _ I h) fun iv s1 ⟨y, H1, I1, ry, z, ey, q1⟩ => thn (ho.run pins s1 σ H1 (fun y0 H2 => y0 = .ref d ∧ H2 = H1) I1 ⟨rfl, rfl⟩) fun u s2 ⟨y0, H2, I2, rx, e1, e2⟩ => ?_
  subst e1
  subst e2
  subst ey
  obtain ⟨r, g1, g2⟩ := ns_some T z
  exact op_notIn_kd D pins s2 σ _ (.str z) (.ref d) iv u Q I2 ry rx ⟨z, r, rfl, rfl, g1, by rw [g2]; exact q1⟩
end
def asS : MV → Option Str
  | .d (.str z) => some z
  | _ => none
theorem asS_rep {K : PySem.W.Frag} {ι : List Addr} {C : Hp} {v : V} {x : MV} {z : Str} (r : Rep K ι C v x) (e : asS x = some z) : v = .str z := by
  cases x with
  | d p =>
    cases p with
    | str s => cases e; cases r with | d r => cases r; rfl
    | _ => cases e
  | _ => cases e
def mKIx (tab : List (Str × PyData)) (me : ME) : ME := fun env h => (me env h).bind fun r => (asS r.1).bind fun z => (valG tab z).map fun d => (.d d, r.2)
def mKIn (neg : Bool) (tab : List (Str × PyData)) (me : ME) : ME := fun env h => (me env h).bind fun r => (asS r.1).map fun z => (.d (.bool (if neg = true then !(valG tab z).isSome else (valG tab z).isSome)), r.2)
section
variable {K : PySem.W.Frag} {te : TE} {me : ME}
theorem sm_kix {tab : List (Str × PyData)} (he : SimE K te me) : SimE K (tKIx K tab te) (mKIx tab me) := fun w h σ env v h' rl re e Q q => by
  obtain ⟨⟨a, h1⟩, e1, e⟩ := bind_of e
  obtain ⟨z, e2, e⟩ := bind_of e
  obtain ⟨d, e3, e⟩ := map_of e
  cases e
  exact he w h σ env a _ rl re e1 _ fun w1 u1 s1 r1 x1 => ⟨z, d, asS_rep x1 e2, e3, fun v dv => q w1 v s1 r1 (.d (dv _))⟩
theorem sm_kin {neg : Bool} {tab : List (Str × PyData)} (he : SimE K te me) : SimE K (tKIn neg tab te) (mKIn neg tab me) := fun w h σ env v h' rl re e Q q => by
  obtain ⟨⟨a, h1⟩, e1, e⟩ := bind_of e
  obtain ⟨z, e2, e⟩ := map_of e
  cases e
  exact he w h σ env a _ rl re e1 _ fun w1 u1 s1 r1 x1 => ⟨z, asS_rep x1 e2, q w1 _ s1 r1 (.d (.bl _))⟩
/-! ### texts -/
def chM (z : Str) : List MV := z.cps.toList.map fun c => .d (.str ⟨#[c]⟩)
def mItS (me : ME) : MI := fun env h => (me env h).bind fun r => (asS r.1).map fun z => (([], chM z), r.2)
theorem si_str (he : SimE K te me) : SimI K (iStr te) (mItS me) := fun w h0 σ env si h' rl re e R q => by
  obtain ⟨⟨a, h1⟩, e1, e⟩ := bind_of e
  obtain ⟨z, e2, e⟩ := map_of e
  cases e
  refine he w h0 σ env a _ rl re e1 _ fun w1 u s1 r1 x1 => ⟨z, asS_rep x1 e2, q w1 _ s1 r1 fun w2 h2 s2 r2 hs => ⟨?_, fun i x ex => ?_⟩⟩
  · show z.cps.size ≤ (chM z).length
    simp [chM]
  · have hl : i < z.cps.size := by
      have := (List.getElem?_eq_some_iff.mp ex).1
      simpa [chM] using this
    refine ⟨hl, fun u' H' y => ?_⟩
    obtain ⟨rfl, c, hc, rfl⟩ := y
    have hx : x = .d (.str ⟨#[c]⟩) := by
      unfold chM at ex
      rw [List.getElem?_map, Array.getElem?_toList, hc] at ex
      cases ex
      rfl
    subst hx
    exact same_step r2 (.d (.str _))
def mIxS : MO2 := fun a b h => (asS a).bind fun z => (asI b).bind fun i => if z.length ≤ 1000 then (atI z.cps.toList i).map fun c => (.d (.str ⟨#[c]⟩), h) else none
theorem sr_ixS : SimR K (rIx K) mIxS := fun w h x y a b v h' rl rx ry e Q q => by
  obtain ⟨z, e1, e⟩ := bind_of e
  obtain ⟨i, e2, e⟩ := bind_of e
  split at e
  · rename_i hz
    obtain ⟨c, e3, e⟩ := map_of e
    cases e
    exact .inr (.inr ⟨z, i, c, asS_rep rx e1, asI_rep ry e2, Nat.le_trans hz (by rw [sizeLine_eq]; decide), e3, q w _ (.refl _) rl (.d (.str _))⟩)
  · cases e
def rLenS : List V → Hp → VK → Prop := fun xs H Q => ∃ z : Str, xs = [.str z] ∧ z.length ≤ sizeLine ∧ Q (.int z.length) H
theorem cr_lenS {X : Cx} : CallR X (.builtin "len") rLenS := call_len_str
def mLenS : MCa := fun xs h => (arg1 xs).bind fun x => (asS x).bind fun z => if z.length ≤ 1000 then some (.d (.int z.length), h) else none
theorem sc_lenS : SimC K rLenS mLenS := fun w h us xs v h' rl ra e Q q => by
  obtain ⟨x, e1, e⟩ := bind_of e
  obtain ⟨z, e2, e⟩ := bind_of e
  split at e
  · rename_i hz
    cases e
    rw [arg1_of e1] at ra
    obtain ⟨u, rfl, rx⟩ := ra.one
    exact ⟨z, by rw [asS_rep rx e2], Nat.le_trans hz (by rw [sizeLine_eq]; decide), q w _ (.refl _) rl (.d (.int _))⟩
  · cases e
/-! ### d.get(k); is True, is not False -/
def mDGet1 (md mk : ME) : ME := fun env h => (md env h).bind fun d => (asK d.2 d.1).bind fun _ => (mk env d.2).bind fun k => (asK k.2 d.1).bind fun t => (keyOf k.1).map fun y => ((valG t.2 y).getD (.d .none), k.2)
theorem sm_dget1 {td ty : TE} {md mk : ME} (hd : SimE K td md) (hk : SimE K ty mk) : SimE K (tDGet1 td ty) (mDGet1 md mk) := fun w h σ env v h' rl re e Q q => by
  obtain ⟨⟨a, h1⟩, e1, e⟩ := bind_of e
  obtain ⟨⟨n0, kws0⟩, e0, e⟩ := bind_of e
  obtain ⟨⟨b, h2⟩, e2, e⟩ := bind_of e
  obtain ⟨⟨n, kws⟩, e3, e⟩ := bind_of e
  obtain ⟨y, e4, e⟩ := map_of e
  cases e
  refine hd w h σ env a h1 rl re e1 _ fun w1 u1 s1 r1 x1 => ?_
  obtain ⟨a0, kvs0, rfl, f1, f2, f3⟩ := asK_ok r1 x1 e0
  refine ⟨a0, rfl, .inl ⟨kvs0, .inl f2⟩, hk w1 h1 σ env b _ r1 (re.up s1) e2 _ fun w2 u2 s2 r2 x2 => ?_⟩
  obtain ⟨ad, kvs, hu, g1, g2, g3⟩ := asK_ok r2 (x1.up s2) e3
  cases hu
  have := keyOf_ok x2 e4
  subst this
  exact ⟨_, .inl ⟨kvs, y, .inl g2, rfl, rfl⟩, q w2 _ (s1.trans s2) r2 (getD_rep g3 y (.d .non))⟩
def mIsB (neg : Bool) : MO2 := fun a b h => match a, b with
  | .d (.bool x), .d (.bool y) => some (.d (.bool (if neg = true then !decide (x = y) else decide (x = y))), h)
  | _, _ => none
theorem bool_rep {ι : List Addr} {C : Hp} {v : V} {x : Bool} (r : Rep K ι C v (.d (.bool x))) : v = .bl x := by
  cases r with | d r => cases r; rfl
theorem isB_of {neg : Bool} {a b v : MV} {h h' : MH} (e : mIsB neg a b h = some (v, h')) : ∃ x y, a = .d (.bool x) ∧ b = .d (.bool y) ∧ v = .d (.bool (if neg = true then !decide (x = y) else decide (x = y))) ∧ h' = h := by
  unfold mIsB at e
  split at e
  · cases e; exact ⟨_, _, rfl, rfl, rfl, rfl⟩
  · cases e
theorem sr_isB : SimR K rIsB (mIsB false) := fun w h x y a b v h' rl rx ry e Q q => by
  obtain ⟨p, r, rfl, rfl, rfl, rfl⟩ := isB_of e
  exact ⟨p, r, bool_rep rx, bool_rep ry, q w _ (.refl _) rl (.d (.bl _))⟩
theorem sr_notB : SimR K rNotB (mIsB true) := fun w h x y a b v h' rl rx ry e Q q => by
  obtain ⟨p, r, rfl, rfl, rfl, rfl⟩ := isB_of e
  exact ⟨p, r, bool_rep rx, bool_rep ry, q w _ (.refl _) rl (.d (.bl _))⟩
end
end M
namespace M
open PySem PySem.Spec PyProof.Rows L2
open Evl (Ex ex_rd ex_l ex_t rMax2)
open G (dpx dpax dpa_len ex_none)
/-! ### xs.pop(0) as a statement; max(xs) of a list of ints -/
def mPop0 (mo : ME) : MS := fun env h => (mo env h).bind fun o => (asL o.2 o.1).bind fun l => match l.2 with
  | [] => none
  | _ :: r => some (.nx env (o.2.set l.1 (.lst r)))
section
variable {K : PySem.W.Frag} {to_ : TE} {mo : ME}
theorem ss_pop0 (h1 : SimE K to_ mo) : SimS K (tDrop (tBM K "list" rPopAt to_ (tCons (tC (.int 0)) tNil))) (mPop0 mo) := fun D w h σ env r rl re e p => by
  obtain ⟨⟨o, hh1⟩, e1, e⟩ := bind_of e
  obtain ⟨⟨n, xs⟩, e4, e⟩ := bind_of e
  cases xs with
  | nil => cases e
  | cons x rest =>
    cases e
    obtain ⟨eo, ex⟩ := asL_of e4
    simp only at eo ex
    subst eo
    refine h1 w h σ env _ hh1 rl re e1 _ fun w1 u1 s1 r1 x1 => ?_
    obtain ⟨a, vs0, rfl, g01, g02, g03⟩ := r1.lst x1 ex
    cases g03 with
    | cons q1 q2 =>
      rename_i v vs
      refine ⟨.inl ⟨rfl, _, .inl (.inl g02)⟩, ?_⟩
      obtain ⟨s4, r4⟩ := write_ok (o := .lst vs) r1 g01 (.lst q2)
      have ss := s1.trans s4
      refine ⟨a, v :: vs, 0, 0, v, rfl, rfl, g02, by decide, by decide, ?_, rfl, p (w1.write a _) σ ss r4 (re.up ss)⟩
      rw [List.length_cons]
      unfold seqIndex?
      simp
      try omega
def maxI : List Int → Int
  | [] => 0
  | [x] => x
  | x :: xs => max x (maxI xs)
theorem maxI_ge : ∀ {xs : List Int} {y : Int}, y ∈ xs → y ≤ maxI xs
  | [x], y, h => by rw [List.mem_singleton.mp h]; exact Int.le_refl _
  | x :: z :: xs, y, h => by
    rw [maxI]
    rcases List.mem_cons.mp h with rfl | h
    · exact Int.le_max_left _ _
    · exact Int.le_trans (maxI_ge h) (Int.le_max_right _ _)
    · simp
theorem maxI_mem : ∀ {xs : List Int}, xs ≠ [] → maxI xs ∈ xs
  | [x], _ => by rw [maxI]; exact List.mem_singleton.mpr rfl
  | x :: z :: xs, _ => by
    rw [maxI]
    · have ih := maxI_mem (xs := z :: xs) (by simp)
      rcases Int.le_total x (maxI (z :: xs)) with h | h
      · rw [Int.max_eq_right h]; exact List.mem_cons_of_mem _ ih
      · rw [Int.max_eq_left h]; exact List.mem_cons_self
    · simp
def mMaxL : MCa := fun xs h => (arg1 xs).bind fun x => if isT x = false then (itemsOf h x).bind fun ys => (intsOf ys).bind fun ns => if ns ≠ [] then some (.d (.int (maxI ns)), h) else none else none
theorem sc_maxL : SimC K (rMax K) mMaxL := fun w h us xs v h' rl ra e Q q => by
  obtain ⟨x, e1, e⟩ := bind_of e
  split at e
  · rename_i ht
    obtain ⟨ys, e2, e⟩ := bind_of e
    obtain ⟨ns, e3, e⟩ := bind_of e
    split at e
    · rename_i hne
      cases e
      rw [arg1_of e1] at ra
      obtain ⟨u, rfl, rx⟩ := ra.one
      obtain ⟨p, vs, rfl, sq, rp⟩ := items_L rl rx e2 ht
      rw [intsOf_eq e3] at rp
      rw [rep_ints rp] at sq
      refine ⟨p, ns, rfl, sq, List.length_pos_iff.mpr hne, fun m hm hy => ?_⟩
      have : m = maxI ns := Int.le_antisymm (maxI_ge hm) (hy _ (maxI_mem hne))
      rw [this]
      exact q w _ (.refl _) rl (.d (.int _))
    · cases e
  · cases e
end
/-! ### slices in a key -/
def fSl (f : PyData → Option PyData) (j : Nat) : PyData → Option PyData := fun d => (f d).bind fun r => match r with
  | .tuple ds => if j < ds.length ∧ ds.length ≤ 1000 then some (.tuple (ds.take j)) else none
  | _ => none
theorem readsAll_take : ∀ {h : Heap} {vs : List Value} {ds : List PyData} {as : List Addr} (j : Nat), ReadsAll h vs ds as → ∃ bs, ReadsAll h (vs.take j) (ds.take j) bs
  | _, _, _, _, 0, _ => ⟨[], .nil⟩
  | _, _, _, _, _ + 1, .nil => ⟨[], .nil⟩
  | _, _, _, _, j + 1, .cons r rs => by
    obtain ⟨bs, h1⟩ := readsAll_take j rs
    exact ⟨_, .cons r h1⟩
theorem kb_sl {prog : Program} {w : World} {sc : Scope} {x : Str} {e : Expr} {f : PyData → Option PyData} {j k : Nat} {p p2 p3 : Pos} (h : KB prog w sc x e f) (hj : j < 1000) : KB prog w sc x (.Subscript e (.Slice none (some (.Constant (.int (j : Int)) k p)) none p2) p3) (fSl f j) := fun env A E v d r as s m Q es hn hm rd hf q => by
  obtain ⟨t, e1, e2⟩ := bind_of hf
  refine Subscript_ (h env A E v d t as s m _ es hn hm rd e1 fun u bs h' tk kp ru => ?_)
  refine wpAny_Slice ?_
  rw [evalPart_none]
  refine wpAny_pure ?_
  rw [evalPart_some]
  refine wpAny_Constant_int ?_
  refine wpAny_pure ?_
  split at e2
  · rename_i ds
    split at e2
    · rename_i hz
      cases e2
      cases ru with
      | tuple ho hc hd ra =>
        rename_i a o vs n
        have kp2 : ∀ z : Obj, Keep h' (h'.push z) := fun z b o e => Heap.get?_push_of_some _ e
        have kp3 : ∀ z y : Obj, Keep h' ((h'.push z).push y) := fun z y b o e => Heap.get?_push_of_some _ (Heap.get?_push_of_some _ e)
        have ht : IsTup h' a vs := ⟨o, ho, hc, n, hd⟩
        have hl : vs.toList.length = ds.length := readsAll_len ra
        rw [Array.length_toList] at hl
        refine tail_any (ops := [.ref h'.objs.size, .ref a]) (T := "tuple") ⟨o, kp2 _ a o ho, hc⟩ slot_tuple_getitem.lookup (HT.getItem_tuple_cut (lo := none) (hi := some (j : Int)) ⟨o, kp2 _ a o ho, hc, n, hd⟩ (Heap.IsSliceOf.new ..) .none (.int _ _) ?_ ?_ (by rw [sizeLine_eq]; omega)) (by with_unfolding_all rfl)
        · rw [hl, HT.sIx_nat]
          omega
        · rw [hl, HT.sIx_nat, HT.sIx_none]
          obtain ⟨cs, hcs⟩ := readsAll_take j ra
          refine q _ cs _ _ (kp.trans (kp3 _ _)) (.tuple (Heap.get?_push_size _ rfl) rfl rfl ?_)
          have e3 : min j ds.length - 0 = j := by omega
          rw [e3, List.drop_zero]
          simpa using readsAll_keeps (kp3 _ _) hcs
    · cases e2
  · cases e2
/-! ### sorted(set(xs)), xs a list or a tuple -/
def rSetX (w : World) (K : PySem.W.Frag) : List V → Hp → VK → Prop := fun vs H Q => ∃ (a : Addr) (ns : List Int), vs = [V.ref a] ∧ (SqL K H a (ns.map V.int) ∨ SqT K H a (ns.map V.int)) ∧ ns.length + 1 < scanBound ∧ ∀ (p : Addr) (n : Nat), n ≤ ns.length → H p = none → Q (.ref p) (upd H p (SetO w p (fun j => decide (j ∈ ns)) n))
def tSoSetX (K : PySem.W.Frag) (t : TA) : TE := fun σ H Q => ∀ w : World, tCB (rSortedSet w) (tCons (tCB (rSetX w K) t) tNil) σ H Q
section
variable {X : Cx}
theorem cr_setX (hc : X.calm = true) : CallR X (.type "set") (rSetX X.w X.K) := by
  intro pins s σ H vs us Q I r h
  obtain ⟨a, ns, rfl, hs, room, q⟩ := h
  rcases hs with hs | hs
  · exact G.cr_setLi hc pins s σ H _ us Q I r ⟨a, ns, rfl, hs, room, q⟩
  · obtain ⟨its, rv, ht, _⟩ := I.tuple hs
    rw [Vals.ref1 r]
    obtain ⟨o, h1, h2, n, h3⟩ := ht
    refine call_set_tupI ns (I.ok.hd hc) ⟨o, h1, h2, n, h3⟩ rv.ints room fun g k c st le old => ?_
    have hp := I.hok.fresh (Nat.le_refl _)
    exact ⟨.ref _, upd H s.heap.objs.size (SetO X.w s.heap.objs.size (fun j => decide (j ∈ ns)) c), I.laid (t' := k) old (Nat.le_refl _) (setO_new st), rfl, q _ c le hp⟩
theorem pe_soSetX {p p2 pos pos2 : Pos} {e : Expr} {t : TA} (hc : X.calm = true) (g1 : Gl X "sorted") (m1 : X.mg "sorted" = none) (g2 : Gl X "set") (m2 : X.mg "set" = none) (ha : PA X [e] t)
    (h1 : starEach [e] X.env = (false, eval e X.env) :: starEach [] X.env := by rfl) (h2 : starEach [Expr.Call (.Name "set" p2) [e] [] pos2] X.env = (false, eval (Expr.Call (.Name "set" p2) [e] [] pos2) X.env) :: starEach [] X.env := by rfl)
    (h3 : (backTo pos2 (starEach [] X.env)).any (·.1) = false := by rfl) (h4 : (backTo pos (starEach [] X.env)).any (·.1) = false := by rfl) :
    PE X (.Call (.Name "sorted" p) [.Call (.Name "set" p2) [e] [] pos2] [] pos) (tSoSetX X.K t) := by
  have A := pe_callTy (p := p2) (cr_setX hc) g2 m2 (by decide +kernel) ha (he := h1) (hpl := h3)
  have B := pe_callB (p := p) (cr_sortedSet hc) g1 m1 (by decide +kernel) (pa_cons A pa_nil h2) (he := h2) (hpl := h4)
  exact ⟨fun pins s σ H Q I h => B.run pins s σ H Q I (h X.w)⟩
end
def mSoSetX (ml : MA) : MA := fun env h => (ml env h).bind fun r => (arg1 r.1).bind fun x => (itemsOf r.2 x).bind fun ys => (intsOf ys).bind fun ns => if ns.length < 64 then some ((ascU ns).map dI, r.2) else none
theorem sm_soSetX {K : PySem.W.Frag} {tl : TA} {ml : MA} (h : SimA K tl ml) : SimF K (tSoSetX K tl) (mSoSetX ml) := fun w h0 σ env xs h' rl re e Q q wd => by
  obtain ⟨⟨as, h1⟩, e1, e⟩ := bind_of e
  obtain ⟨x, e2, e⟩ := bind_of e
  obtain ⟨ys, e3, e⟩ := bind_of e
  obtain ⟨ns, e4, e⟩ := bind_of e
  split at e
  · rename_i hz
    cases e
    refine h w h0 σ env as h1 rl re e1 _ fun w1 us s1 r1 x1 => ?_
    replace e2 : arg1 as = some x := e2
    rw [arg1_of e2] at x1
    obtain ⟨u, rfl, rx⟩ := x1.one
    obtain ⟨p0, vs, rfl, sq, rp⟩ := items_ok r1 rx e3
    rw [intsOf_eq e4] at rp
    rw [rep_ints rp] at sq
    refine ⟨_, ns, rfl, sq, by simp only [scanBound]; omega, fun p n le hp => ?_⟩
    show rSortedSet wd [V.ref p] _ Q
    refine ⟨p, _, n, rfl, upd_same, by omega, fun ks q2 g1 g2 _ g3 => ?_⟩
    have e5 : ks = ascU ns := asc_same g1 (ascU_asc ns) fun z => by rw [g2 z, mem_ascU]; simp
    subst e5
    obtain ⟨s2, r2⟩ := fresh_ok (o := SetO wd p (fun j => decide (j ∈ ns)) n) r1 hp
    obtain ⟨s3, r3⟩ := fresh_ok (o := .lst ((ascU ns).map V.int)) r2 g3
    have sA := (s1.trans s2).trans s3
    have hq0 : w.H q2 = none := by
      cases z : w.H q2 with
      | none => rfl
      | some o => exact absurd g3 ((s1.trans s2).kp q2 (by rw [z]; exact fun q => nomatch q))
    exact q _ q2 _ sA r3 hq0 upd_same (r2.notin g3) (r2.cnone g3) (by
      have := ints_rep (K := K) (ι := w1.ι) (C := w1.C) (ascU ns)
      exact this)
  · cases e
/-! ### xs.extend(ys), both lists of one's own -/
def mExt (mo me : ME) : MS := fun env h => (mo env h).bind fun o => (asL o.2 o.1).bind fun _ => (me env o.2).bind fun r => (asL r.2 o.1).bind fun l => (asL r.2 r.1).bind fun q => if l.2.length + q.2.length ≤ 100000 then some (.nx env (r.2.set l.1 (.lst (l.2 ++ q.2)))) else none
theorem ss_ext {K : PySem.W.Frag} {to_ te : TE} {mo me : ME} (h1 : SimE K to_ mo) (h2 : SimE K te me) : SimS K (tDrop (tBM K "list" rExtend to_ (tCons te tNil))) (mExt mo me) := fun D w h σ env r rl re e p => by
  obtain ⟨⟨o, hh1⟩, e1, e⟩ := bind_of e
  obtain ⟨⟨n0, xs0⟩, e0, e⟩ := bind_of e
  obtain ⟨⟨v, hh2⟩, e2, e⟩ := bind_of e
  obtain ⟨⟨n, xs⟩, e4, e⟩ := bind_of e
  obtain ⟨⟨m, ys⟩, e5, e⟩ := bind_of e
  simp only at e
  split at e
  · rename_i hz
    cases e
    obtain ⟨eo, ex⟩ := asL_of e4
    obtain ⟨ev, ey⟩ := asL_of e5
    obtain ⟨eo0, ex0⟩ := asL_of e0
    simp only at eo ex eo0 ex0 ev ey
    subst eo
    cases eo0
    subst ev
    refine h1 w h σ env _ hh1 rl re e1 _ fun w1 u1 s1 r1 x1 => ?_
    obtain ⟨a, vs0, rfl, g01, g02, g03⟩ := r1.lst x1 ex0
    refine ⟨.inl ⟨rfl, _, .inl (.inl g02)⟩, h2 w1 hh1 σ env _ hh2 r1 (re.up s1) e2 _ fun w2 u2 s2 r2 x2 => ?_⟩
    obtain ⟨a', vs, ea, g1, g2, g3⟩ := r2.lst (x1.up s2) ex
    cases ea
    obtain ⟨b, us, rfl, f1, f2, f3⟩ := r2.lst x2 ey
    obtain ⟨s4, r4⟩ := write_ok (o := .lst (vs ++ us)) r2 g1 (.lst (g3.app f3))
    have ss := (s1.trans s2).trans s4
    exact ⟨a, b, vs, us, rfl, rfl, g2, f2, by rw [g3.len, f3.len]; exact Nat.le_trans hz sl_100000, p (w2.write a _) σ ss r4 (re.up ss)⟩
  · cases e
end M
namespace M
open PySem PySem.Spec PyProof.Rows L2
open Evl (Ex ex_rd ex_l ex_t rMax2)
open G (dpx dpax dpa_len dpa_get dpa_app dpa_set ex_none wipe_get wipe_eq wipe_wipe RD UD CD Ret)
/-! ### dicts with tuples as keys -/
def keyT : MV → Option (List Key)
  | .tup xs => mapO keyOf xs
  | _ => none
section
variable {K : PySem.W.Frag} {w : Wd} {h : MH}
theorem keysT_ok : ∀ {vs : List V} {xs : List MV} {ks : List Key}, RepA K w.ι w.C vs xs → mapO keyOf xs = some ks → vs = ks.map kV
  | _, [], ks, .nil, e => by cases e; rfl
  | _, x :: xs, ks, .cons r t, e => by
    rw [mapO] at e
    cases e1 : keyOf x with
    | none => rw [e1] at e; cases e
    | some k =>
      rw [e1] at e
      cases e2 : mapO keyOf xs with
      | none => rw [e2] at e; cases e
      | some ls => rw [e2] at e; cases e; rw [keyOf_ok r e1, keysT_ok t e2]; rfl
theorem keyT_ok {v : V} {x : MV} {ks : List Key} (r : Rep K w.ι w.C v x) (e : keyT x = some ks) : ∃ b, v = .ref b ∧ w.C b = some (.tup (ks.map kV)) := by
  cases x with
  | tup xs =>
    cases r with
    | tup q a => rw [keysT_ok a e] at q; exact ⟨_, rfl, q⟩
  | d _ => cases e
  | ref _ => cases e
def asKT (h : MH) : MV → Option (Nat × List (List Key × MV))
  | .ref n => match h[n]? with
    | some (.dctT kws) => some (n, kws)
    | _ => none
  | _ => none
theorem asKT_of {v : MV} {n : Nat} {kws : List (List Key × MV)} (e : asKT h v = some (n, kws)) : v = .ref n ∧ h[n]? = some (.dctT kws) := by
  cases v with
  | ref m =>
    unfold asKT at e
    cases e1 : h[m]? with
    | none => simp only [e1] at e; cases e
    | some b =>
      cases b with
      | dctT ys => simp only [e1] at e; cases e; exact ⟨rfl, e1⟩
      | _ => simp only [e1] at e; cases e
  | d _ => cases e
  | tup _ => cases e
theorem e_asKT {n : Nat} {kws : List (List Key × MV)} {h : MH} (hn : h[n]? = some (.dctT kws)) : asKT h (.ref n) = some (n, kws) := by
  unfold asKT; simp only [hn]
theorem asKT_ok (r : Rel K w h) {v : V} {x : MV} {n : Nat} {kws : List (List Key × MV)} (rx : Rep K w.ι w.C v x) (e : asKT h x = some (n, kws)) : ∃ a kvs, v = .ref a ∧ w.ι[n]? = some a ∧ w.H a = some (.dT kvs) ∧ KRep K w.ι w.C kvs kws := by
  obtain ⟨eo, ex⟩ := asKT_of e
  subst eo
  obtain ⟨a, o, h1, h2, h3, h4⟩ := r.look rx ex
  cases h4 with
  | dctT h4 h5 => exact ⟨a, _, h1, h2, h3, h4, h5⟩
end
section
variable {K : PySem.W.Frag} {td ty tx tv : TE} {md mk mx mv : ME}
def mTupK (ma : MA) : ME := fun env h => (ma env h).bind fun r => if r.1.length ≤ 100000 then some (.tup r.1, r.2) else none
theorem sm_tupK {tl : TA} {ml : MA} (ha : SimA K tl ml) : SimE K (tTup tl) (mTupK ml) := fun w h σ env v h' rl re e Q q => by
  obtain ⟨⟨a, h1⟩, e1, e⟩ := bind_of e
  simp only at e
  split at e
  · rename_i hz
    cases e
    refine ha w h σ env _ _ rl re e1 _ fun w1 xs s1 r1 x1 => ⟨by rw [x1.len]; exact Nat.le_trans hz sl_100000, fun p hp => ?_⟩
    obtain ⟨s2, r2⟩ := know_ok (o := .tup xs) r1 hp
    exact q (w1.know p (.tup xs)) _ (s1.trans s2) r2 (.tup upd_same (x1.up s2))
  · cases e
def mTGet (md mk : ME) : ME := fun env h => (md env h).bind fun d => (mk env d.2).bind fun k => (asKT k.2 d.1).bind fun t => (keyT k.1).bind fun y => (valG t.2 y).map fun v => (v, k.2)
theorem sm_tget (hd : SimE K td md) (hk : SimE K ty mk) : SimE K (tDGet td ty) (mTGet md mk) := fun w h σ env v h' rl re e Q q => by
  obtain ⟨⟨a, h1⟩, e1, e⟩ := bind_of e
  obtain ⟨⟨b, h2⟩, e2, e⟩ := bind_of e
  obtain ⟨⟨n, kws⟩, e3, e⟩ := bind_of e
  obtain ⟨y, e4, e⟩ := bind_of e
  obtain ⟨x, e5, e⟩ := map_of e
  cases e
  refine hd w h σ env a h1 rl re e1 _ fun w1 u1 s1 r1 x1 => hk w1 h1 σ env b _ r1 (re.up s1) e2 _ fun w2 u2 s2 r2 x2 => ?_
  obtain ⟨ad, kvs, rfl, g1, g2, g3⟩ := asKT_ok r2 (x1.up s2) e3
  obtain ⟨bb, rfl, gb⟩ := keyT_ok x2 e4
  obtain ⟨u, f1, f2⟩ := g3.valS e5
  exact ⟨ad, u, rfl, .inr ⟨kvs, y, bb, .inl g2, rfl, r2.ch _ _ gb, f1.symm⟩, q w2 u (s1.trans s2) r2 f2⟩
def mTIn (neg : Bool) (mk md : ME) : ME := fun env h => (mk env h).bind fun k => (md env k.2).bind fun d => (asKT d.2 d.1).bind fun t => (keyT k.1).map fun y => (.d (.bool (if neg = true then !(valG t.2 y).isSome else (valG t.2 y).isSome)), d.2)
theorem sm_tin (hk : SimE K ty mk) (hd : SimE K td md) : SimE K (tDIn ty td) (mTIn false mk md) := fun w h σ env v h' rl re e Q q => by
  obtain ⟨⟨a, h1⟩, e1, e⟩ := bind_of e
  obtain ⟨⟨b, h2⟩, e2, e⟩ := bind_of e
  obtain ⟨⟨n, kws⟩, e3, e⟩ := bind_of e
  obtain ⟨y, e4, e⟩ := map_of e
  cases e
  refine hk w h σ env a h1 rl re e1 _ fun w1 u1 s1 r1 x1 => hd w1 h1 σ env b _ r1 (re.up s1) e2 _ fun w2 u2 s2 r2 x2 => ?_
  obtain ⟨ad, kvs, rfl, g1, g2, g3⟩ := asKT_ok r2 x2 e3
  obtain ⟨bb, rfl, gb⟩ := keyT_ok (x1.up s2) e4
  refine ⟨ad, _, rfl, .inr ⟨kvs, y, bb, .inl g2, rfl, r2.ch _ _ gb, rfl⟩, q w2 _ (s1.trans s2) r2 ?_⟩
  rw [g3.isSome y]
  exact .d (.bl _)
theorem sm_tnotin (hk : SimE K ty mk) (hd : SimE K td md) : SimE K (tDNotIn ty td) (mTIn true mk md) := fun w h σ env v h' rl re e Q q => by
  obtain ⟨⟨a, h1⟩, e1, e⟩ := bind_of e
  obtain ⟨⟨b, h2⟩, e2, e⟩ := bind_of e
  obtain ⟨⟨n, kws⟩, e3, e⟩ := bind_of e
  obtain ⟨y, e4, e⟩ := map_of e
  cases e
  refine hk w h σ env a h1 rl re e1 _ fun w1 u1 s1 r1 x1 => hd w1 h1 σ env b _ r1 (re.up s1) e2 _ fun w2 u2 s2 r2 x2 => ?_
  obtain ⟨ad, kvs, rfl, g1, g2, g3⟩ := asKT_ok r2 x2 e3
  obtain ⟨bb, rfl, gb⟩ := keyT_ok (x1.up s2) e4
  refine ⟨ad, _, rfl, .inr ⟨kvs, y, bb, .inl g2, rfl, r2.ch _ _ gb, rfl⟩, q w2 _ (s1.trans s2) r2 ?_⟩
  rw [g3.isSome y]
  exact .d (.bl _)
def mTGet2 (md mk mx : ME) : ME := fun env h => (md env h).bind fun d => (asKT d.2 d.1).bind fun _ => (mk env d.2).bind fun k => (mx env k.2).bind fun x => (asKT x.2 d.1).bind fun t => (keyT k.1).map fun y => ((valG t.2 y).getD x.1, x.2)
theorem sm_tget2 (hd : SimE K td md) (hk : SimE K ty mk) (hx : SimE K tx mx) : SimE K (tDGet2 td ty tx) (mTGet2 md mk mx) := fun w h σ env v h' rl re e Q q => by
  obtain ⟨⟨a, h1⟩, e1, e⟩ := bind_of e
  obtain ⟨⟨n0, kws0⟩, e0, e⟩ := bind_of e
  obtain ⟨⟨b, h2⟩, e2, e⟩ := bind_of e
  obtain ⟨⟨c, h3⟩, e3, e⟩ := bind_of e
  obtain ⟨⟨n, kws⟩, e4, e⟩ := bind_of e
  obtain ⟨y, e5, e⟩ := map_of e
  cases e
  refine hd w h σ env a h1 rl re e1 _ fun w1 u1 s1 r1 x1 => ?_
  obtain ⟨ad0, kvs0, rfl, g01, g02, g03⟩ := asKT_ok r1 x1 e0
  refine ⟨ad0, rfl, .inr ⟨kvs0, .inl g02⟩, hk w1 h1 σ env b h2 r1 (re.up s1) e2 _ fun w2 u2 s2 r2 x2 => hx w2 h2 σ env c _ r2 ((re.up s1).up s2) e3 _ fun w3 u3 s3 r3 x3 => ?_⟩
  obtain ⟨ad, kvs, ea, g1, g2, g3⟩ := asKT_ok r3 ((x1.up s2).up s3) e4
  cases ea
  obtain ⟨bb, rfl, gb⟩ := keyT_ok (x2.up s3) e5
  exact ⟨_, .inr ⟨kvs, y, bb, .inl g2, rfl, r3.ch _ _ gb, rfl⟩, q w3 _ ((s1.trans s2).trans s3) r3 (getD_rep g3 y x3)⟩
def mTNew : ME := fun _ h => some (.ref h.length, h ++ [.dctT []])
theorem sm_tnew : SimE K tDNewT mTNew := fun w h σ env v h' rl re e Q q => by
  cases e
  intro p hp
  obtain ⟨s, r, g⟩ := alloc_ok (o := .dT []) (b := .dctT []) rl hp (.dctT rfl .nil)
  exact q (w.alloc p (.dT [])) (.ref p) s r (.ref g)
def mTPut (md mk mv : ME) : MS := fun env h => (mv env h).bind fun v => (md env v.2).bind fun d => (mk env d.2).bind fun k => (asKT k.2 d.1).bind fun t => (keyT k.1).bind fun y => if t.2.length < 100000 then some (.nx env (k.2.set t.1 (.dctT (putG t.2 y v.1)))) else none
theorem ss_tput (hd : SimE K td md) (hk : SimE K ty mk) (hv : SimE K tv mv) : SimS K (sDPut td ty tv) (mTPut md mk mv) := fun D w h σ env r rl re e p => by
  obtain ⟨⟨v, hh1⟩, e1, e⟩ := bind_of e
  obtain ⟨⟨d, hh2⟩, e2, e⟩ := bind_of e
  obtain ⟨⟨k, hh3⟩, e3, e⟩ := bind_of e
  obtain ⟨⟨n, kws⟩, e4, e⟩ := bind_of e
  obtain ⟨y, e5, e⟩ := bind_of e
  simp only at e
  split at e
  · rename_i hz
    cases e
    refine hv w h σ env v hh1 rl re e1 _ fun w1 u1 s1 r1 x1 => hd w1 hh1 σ env d hh2 r1 (re.up s1) e2 _ fun w2 u2 s2 r2 x2 => hk w2 hh2 σ env k hh3 r2 ((re.up s1).up s2) e3 _ fun w3 u3 s3 r3 x3 => ?_
    obtain ⟨a, kvs, rfl, g1, g2, g3⟩ := asKT_ok r3 (x2.up s3) e4
    obtain ⟨bb, rfl, gb⟩ := keyT_ok x3 e5
    have x1' := (x1.up s2).up s3
    have gp := g3.put x1' y
    obtain ⟨s4, r4⟩ := write_ok (o := .dT (putK kvs y u1)) r3 g1 (.dctT gp.1 gp.2)
    have ss := ((s1.trans s2).trans s3).trans s4
    exact ⟨a, _, rfl, .inr ⟨kvs, y, bb, g2, rfl, r3.ch _ _ gb, by rw [g3.len]; exact Nat.lt_of_lt_of_le hz sl_100000, rfl⟩, p (w3.write a _) σ ss r4 (re.up ss)⟩
  · cases e
def mLenT : MCa := fun xs h => (arg1 xs).bind fun x => (asKT h x).map fun t => (.d (.int t.2.length), h)
theorem sc_lenT : SimC K rLenT mLenT := fun w h us xs v h' rl ra e Q q => by
  obtain ⟨x, e1, e⟩ := bind_of e
  obtain ⟨⟨n, kws⟩, e2, e⟩ := map_of e
  cases e
  rw [arg1_of e1] at ra
  obtain ⟨u, rfl, rx⟩ := ra.one
  obtain ⟨a, kvs, rfl, g1, g2, g3⟩ := asKT_ok rl rx e2
  refine ⟨a, kvs, rfl, g2, ?_⟩
  have := g3.len
  rw [this]
  exact q w _ (.refl _) rl (.d (.int _))
end
end M
namespace M
open PySem PySem.Spec PyProof.Rows L2
open G (ti li)
/-! ### slots and heaps by what is known of them -/
abbrev At (env : Env) (i : Nat) (v : MV) : Prop := env[i]? = some (some v)
theorem at_lt {env : Env} {i : Nat} {v : MV} (a : At env i v) : i < env.length := (List.getElem?_eq_some_iff.mp a).1
theorem at_ne {env : Env} {i j : Nat} {v : MV} {x : Option MV} (a : At env i v) (n : j ≠ i) : At (env.set j x) i v := by
  show (env.set j x)[i]? = _
  rw [List.getElem?_set_ne n]; exact a
theorem at_eq {env : Env} {i : Nat} {v : MV} (l : i < env.length) : At (env.set i (some v)) i v := List.getElem?_set_self l
theorem e_v {env : Env} {i : Nat} {v : MV} {h : MH} (a : At env i v) : mVar i env h = some (v, h) := by
  unfold mVar
  rw [show env[i]? = some (some v) from a]
theorem asL_ref {h : MH} {n : Nat} : asL h (.ref n) = match h[n]? with | some (.lst xs) => some (n, xs) | _ => none := by
  unfold asL; rfl
theorem asK_ref {h : MH} {n : Nat} : asK h (.ref n) = match h[n]? with | some (.dct xs) => some (n, xs) | _ => none := by
  unfold asK; rfl
theorem asKT_ref {h : MH} {n : Nat} : asKT h (.ref n) = match h[n]? with | some (.dctT xs) => some (n, xs) | _ => none := by
  unfold asKT; rfl
theorem it_ref {h : MH} {n : Nat} : itemsOf h (.ref n) = (asL h (.ref n)).map (·.2) := rfl
/-- a heap laid out by roles -/
structure Lay {ρ : Type} (D : ρ → Prop) (loc : ρ → Nat) (c : ρ → Ob) (h : MH) : Prop where
  inj : ∀ r s, D r → D s → loc r = loc s → r = s
  at_ : ∀ r, D r → h[loc r]? = some (c r)
section
variable {ρ : Type} {D : ρ → Prop} {loc : ρ → Nat} {c c' : ρ → Ob} {h : MH}
theorem Lay.lt (L : Lay D loc c h) {r : ρ} (hr : D r) : loc r < h.length := (List.getElem?_eq_some_iff.mp (L.at_ r hr)).1
theorem Lay.set (L : Lay D loc c h) {r : ρ} (hr : D r) {o : Ob} (ho : c' r = o) (e : ∀ s, D s → s ≠ r → c' s = c s) : Lay D loc c' (h.set (loc r) o) where
  inj := L.inj
  at_ s hs := by
    by_cases z : s = r
    · subst z
      rw [List.getElem?_set_self (L.lt hs), ho]
    · rw [List.getElem?_set_ne (fun y => z (L.inj s r hs hr y.symm)), e s hs z]
      exact L.at_ s hs
theorem Lay.imp (L : Lay D loc c h) (e : ∀ s, D s → c' s = c s) : Lay D loc c' h := ⟨L.inj, fun s hs => by rw [e s hs]; exact L.at_ s hs⟩
theorem Lay.app (L : Lay D loc c h) (g : MH) : Lay D loc c (h ++ g) := ⟨L.inj, fun s hs => by rw [List.getElem?_append_left (L.lt hs)]; exact L.at_ s hs⟩
/-- one role more -/
theorem Lay.grow {D' : ρ → Prop} {loc' : ρ → Nat} (L : Lay D loc c h) (r : ρ) {o : Ob} (hl : loc' r = h.length) (ho : c' r = o) (hD : ∀ s, D' s → s ≠ r → D s) (hloc : ∀ s, D' s → s ≠ r → loc' s = loc s) (hc : ∀ s, D' s → s ≠ r → c' s = c s) : Lay D' loc' c' (h ++ [o]) where
  inj a b ha hb e := by
    by_cases z : a = r
    · by_cases y : b = r
      · rw [z, y]
      · have := L.lt (hD b hb y)
        rw [z, hl, hloc b hb y] at e
        omega
    · by_cases y : b = r
      · have := L.lt (hD a ha z)
        rw [y, hl, hloc a ha z] at e
        omega
      · rw [hloc a ha z, hloc b hb y] at e
        exact L.inj a b (hD a ha z) (hD b hb y) e
  at_ a ha := by
    by_cases z : a = r
    · rw [z, hl, List.getElem?_append_right (Nat.le_refl _), Nat.sub_self, ho]; rfl
    · rw [hloc a ha z, hc a ha z, List.getElem?_append_left (L.lt (hD a ha z))]
      exact L.at_ a (hD a ha z)
end
/-! ### what a dict holds -/
section
variable {κ β : Type} [DecidableEq κ]
theorem valG_nil (k : κ) : valG ([] : List (κ × β)) k = none := rfl
theorem valG_cons (p : κ × β) (ps : List (κ × β)) (k : κ) : valG (p :: ps) k = if p.1 = k then some p.2 else valG ps k := by rw [valG]
theorem valG_app (a b : List (κ × β)) (k : κ) : valG (a ++ b) k = match valG a k with | some v => some v | none => valG b k := by
  induction a with
  | nil => rfl
  | cons p a ih =>
    rw [List.cons_append, valG_cons, valG_cons]
    by_cases e : p.1 = k
    · rw [if_pos e, if_pos e]
    · rw [if_neg e, if_neg e]; exact ih
theorem valG_repl (a : List (κ × β)) (k : κ) (v : β) (j : κ) : valG (replG a k v) j = if j = k ∧ (valG a k).isSome = true then some v else valG a j := by
  induction a with
  | nil => simp [replG, valG_nil]
  | cons p a ih =>
    have e0 : replG (p :: a) k v = (if p.1 = k then (p.1, v) else p) :: replG a k v := rfl
    rw [e0, valG_cons, ih, valG_cons, valG_cons]
    by_cases e : p.1 = k
    · by_cases f : j = k
      · subst f; simp [e]
      · have : ¬ p.1 = j := fun z => f (z.symm.trans e)
        have f' : ¬ k = j := fun z => f z.symm
        simp [e, f, f']
    · by_cases f : p.1 = j
      · have : ¬ j = k := fun z => e (f.trans z)
        simp [e, f, this]
      · simp [e, f]
theorem valG_put (a : List (κ × β)) (k : κ) (v : β) (j : κ) : valG (putG a k v) j = if j = k then some v else valG a j := by
  unfold putG hasG
  by_cases e : (valG a k).isSome = true
  · rw [if_pos e, valG_repl]
    simp [e]
  · have en : valG a k = none := by
      cases z : valG a k with
      | none => rfl
      | some x => rw [z] at e; exact absurd rfl e
    rw [if_neg e, valG_app]
    by_cases f : j = k
    · subst f
      simp [en, valG_cons]
    · have f' : ¬ k = j := fun z => f z.symm
      cases z : valG a j with
      | none => simp [f, f', valG_cons, valG_nil]
      | some x => simp [f]
theorem put_len (a : List (κ × β)) (k : κ) (v : β) : (putG a k v).length ≤ a.length + 1 := by
  unfold putG
  split
  · unfold replG; rw [List.length_map]; omega
  · simp
end
theorem keyT_ii (i j : Int) : keyT (.tup [.d (.int i), .d (.int j)]) = some [.inl i, .inl j] := rfl
section
variable {ρ : Type} {D : ρ → Prop} {loc : ρ → Nat} {c c' : ρ → Ob} {h : MH}
theorem Lay.ne (L : Lay D loc c h) {r s : ρ} (hr : D r) (hs : D s) (n : r ≠ s) : loc r ≠ loc s := fun e => n (L.inj r s hr hs e)
theorem Lay.set2 (L : Lay D loc c h) {r s : ρ} (hr : D r) (hs : D s) (n : r ≠ s) {o p : Ob} (ho : c' r = o) (hp : c' s = p) (e : ∀ x, D x → x ≠ r → x ≠ s → c' x = c x) : Lay D loc c' ((h.set (loc r) o).set (loc s) p) where
  inj := L.inj
  at_ x hx := by
    by_cases z : x = s
    · subst z
      rw [List.getElem?_set_self (by rw [List.length_set]; exact L.lt hx), hp]
    · rw [List.getElem?_set_ne (L.ne hs hx (Ne.symm z))]
      by_cases y : x = r
      · subst y
        rw [List.getElem?_set_self (L.lt hx), ho]
      · rw [List.getElem?_set_ne (L.ne hr hx (Ne.symm y)), e x hx y z]
        exact L.at_ x hx
end
/-! ### comprehensions over a list of one's own, the heap stays -/
theorem lc_filtS {α : Type} {src : List (Nat × List MV)} {g : MG} {mt : MT} {me : ME} {env : Env} {h : MH} (hs : ∀ s ∈ src, h[s.1]? = some (.lst s.2)) (φ f : α → MV) (c : α → Bool) : ∀ ks : List α, (∀ k ∈ ks, (g (φ k) env).bind (fun e => mt e h) = some (c k, h)) → (∀ k ∈ ks, c k = true → (g (φ k) env).bind (fun e => me e h) = some (f k, h)) → lcLoop g mt me src env (ks.map φ) h = some ((ks.filter c).map f, h)
  | [], _, _ => by rw [List.map_nil, lcLoop, srcIf_ok hs]; rfl
  | k :: ks, ht, hb => by
    rw [List.map_cons, lcLoop, srcIf_ok hs]
    have h1 := ht k List.mem_cons_self
    obtain ⟨e', e1, e2⟩ := bind_of h1
    rw [e1, Option.bind_some, e2, Option.bind_some]
    have ih := lc_filtS hs φ f c ks (fun k m => ht k (List.mem_cons_of_mem _ m)) (fun k m => hb k (List.mem_cons_of_mem _ m))
    cases hc : c k with
    | true =>
      have h2 := hb k List.mem_cons_self hc
      rw [e1, Option.bind_some] at h2
      rw [if_pos rfl, h2, Option.bind_some, ih, List.filter_cons, if_pos hc]
      rfl
    | false =>
      rw [if_neg (fun z => nomatch z), ih, List.filter_cons, if_neg (by rw [hc]; decide)]
theorem mLc_filtS {α : Type} {src : List (Nat × List MV)} {mi : MI} {g : MG} {mt : MT} {me : ME} {vs : List Nat} {env : Env} {h h1 : MH} (ks : List α) (φ f : α → MV) (c : α → Bool) (hi : mi env h = some ((src, ks.map φ), h1)) (hs : ∀ s ∈ src, h1[s.1]? = some (.lst s.2)) (ht : ∀ k ∈ ks, (g (φ k) (wipeM env vs)).bind (fun e => mt e h1) = some (c k, h1)) (hb : ∀ k ∈ ks, c k = true → (g (φ k) (wipeM env vs)).bind (fun e => me e h1) = some (f k, h1)) (hz : ks.length ≤ 100000) :
    mLc mi g mt me vs env h = some ((ks.filter c).map f, h1) := by
  unfold mLc
  rw [hi, Option.bind_some]
  show (lcLoop g mt me src (wipeM env vs) (ks.map φ) h1).bind _ = _
  rw [lc_filtS hs φ f c ks ht hb, Option.bind_some, if_pos (by
    show ((ks.filter c).map f).length ≤ _
    rw [List.length_map]; exact Nat.le_trans (List.length_filter_le _ _) hz)]
theorem mLc_mapS {α : Type} {src : List (Nat × List MV)} {mi : MI} {g : MG} {me : ME} {vs : List Nat} {env : Env} {h h1 : MH} (ks : List α) (φ f : α → MV) (hi : mi env h = some ((src, ks.map φ), h1)) (hs : ∀ s ∈ src, h1[s.1]? = some (.lst s.2)) (hb : ∀ k ∈ ks, (g (φ k) (wipeM env vs)).bind (fun e => me e h1) = some (f k, h1)) (hz : ks.length ≤ 100000) : mLc mi g mYes me vs env h = some (ks.map f, h1) := by
  have := mLc_filtS (mt := mYes) ks φ f (fun _ => true) hi hs (fun k hk => by
    obtain ⟨e', e1, e2⟩ := bind_of (hb k hk)
    rw [e1]; rfl) (fun k hk _ => hb k hk) hz
  rwa [List.filter_eq_self.mpr (fun _ _ => rfl)] at this
theorem filt_zip {α : Type} (n : Nat) : ∀ (xs : List α) (k : Nat), (xs.zipIdx k).filter (fun z => decide ((n : Int) < (z.2 : Nat) + 1)) = (xs.zipIdx k).drop (n - k)
  | [], k => by simp
  | x :: xs, k => by
    rw [List.zipIdx_cons, List.filter_cons]
    by_cases e : n < k + 1
    · have : (decide ((n : Int) < ((x, k).2 : Nat) + 1)) = true := by simp; omega
      rw [if_pos this, filt_zip n xs (k + 1), show n - (k + 1) = 0 by omega, show n - k = 0 by omega]
      rfl
    · have : ¬ (decide ((n : Int) < ((x, k).2 : Nat) + 1)) = true := by simp; omega
      rw [if_neg this, filt_zip n xs (k + 1), show n - k = (n - (k + 1)) + 1 by omega]
      rfl
theorem drop_zip {α : Type} : ∀ (xs : List α) (j k : Nat), (xs.zipIdx k).drop j = (xs.drop j).zipIdx (k + j)
  | xs, 0, k => rfl
  | [], j + 1, k => by simp
  | x :: xs, j + 1, k => by
    rw [List.zipIdx_cons, List.drop_succ_cons, List.drop_succ_cons, drop_zip xs j (k + 1), show k + 1 + j = k + (j + 1) by omega]
theorem at_l0 {α : Type} {x : α} {xs : List α} : atI (x :: xs) 0 = some x := by
  rw [atI_get (by decide) (by simp [List.length_cons] <;> omega) x]; rfl
theorem at_l1 {α : Type} {x y : α} {xs : List α} : atI (x :: y :: xs) 1 = some y := by
  rw [atI_get (by decide) (by simp [List.length_cons] <;> omega) x]; rfl
theorem at_l2 {α : Type} {x y z : α} {xs : List α} : atI (x :: y :: z :: xs) 2 = some z := by
  rw [atI_get (by decide) (by simp [List.length_cons] <;> omega) x]; rfl
theorem at_l3 {α : Type} {x y z w : α} {xs : List α} : atI (x :: y :: z :: w :: xs) 3 = some w := by
  rw [atI_get (by decide) (by simp [List.length_cons] <;> omega) x]; rfl
theorem at_l4 {α : Type} {x y z w v : α} {xs : List α} : atI (x :: y :: z :: w :: v :: xs) 4 = some v := by
  rw [atI_get (by decide) (by simp [List.length_cons] <;> omega) x]; rfl
/-! ### data that may be compared -/
def pl (n : Nat) (d : PyData) : Prop := PyData.canLay0 d = true ∧ d.depth ≤ n
theorem pl_up {n m : Nat} {d : PyData} (h : pl n d) (e : n ≤ m) : pl m d := ⟨h.1, Nat.le_trans h.2 e⟩
theorem pl_int {n : Nat} (i : Int) : pl n (.int i) := ⟨by rw [PyData.canLay0], by rw [PyData.depth]; omega⟩
theorem pl_bool {n : Nat} (b : Bool) : pl n (.bool b) := ⟨by rw [PyData.canLay0], by rw [PyData.depth]; omega⟩
theorem pl_none {n : Nat} : pl n .none := ⟨by rw [PyData.canLay0], by rw [PyData.depth]; omega⟩
theorem pl_str {n : Nat} {s : Str} (h : PyData.strOk s = true) : pl n (.str s) := ⟨by rw [PyData.canLay0, h], by rw [PyData.depth]; omega⟩
theorem plA {n : Nat} : ∀ {ds : List PyData}, (∀ d ∈ ds, pl n d) → PyData.canLayAll0 ds = true ∧ PyData.depthAll ds ≤ n
  | [], _ => ⟨by rw [PyData.canLayAll0], by rw [PyData.depthAll]; omega⟩
  | d :: ds, h => by
    obtain ⟨h1, h2⟩ := h d List.mem_cons_self
    obtain ⟨h3, h4⟩ := plA (ds := ds) fun x m => h x (List.mem_cons_of_mem _ m)
    exact ⟨by rw [PyData.canLayAll0, h1, h3]; rfl, by rw [PyData.depthAll]; omega⟩
theorem pl_tup {n : Nat} {ds : List PyData} (h : ∀ d ∈ ds, pl n d) : pl (n + 1) (.tuple ds) := ⟨by rw [PyData.canLay0]; exact (plA h).1, by rw [PyData.depth]; have := (plA h).2; omega⟩
theorem pl_list {n : Nat} {ds : List PyData} (h : ∀ d ∈ ds, pl n d) : pl (n + 1) (.list ds) := ⟨by rw [PyData.canLay0]; exact (plA h).1, by rw [PyData.depth]; have := (plA h).2; omega⟩
theorem pl_t2 {n : Nat} {a b : PyData} (h1 : pl n a) (h2 : pl n b) : pl (n + 1) (.tuple [a, b]) := pl_tup fun d m => by
  rcases List.mem_cons.mp m with e | m
  · rw [e]; exact h1
  · rw [List.mem_singleton.mp m]; exact h2
theorem pl_t3 {n : Nat} {a b c : PyData} (h1 : pl n a) (h2 : pl n b) (h3 : pl n c) : pl (n + 1) (.tuple [a, b, c]) := pl_tup fun d m => by
  rcases List.mem_cons.mp m with e | m
  · rw [e]; exact h1
  · rcases List.mem_cons.mp m with e | m
    · rw [e]; exact h2
    · rw [List.mem_singleton.mp m]; exact h3
theorem pl_sh {n : Nat} {d : PyData} (h : pl n d) (e : n ≤ 64 := by decide) : SeqAt.shaped d = true := by
  unfold SeqAt.shaped
  rw [h.1, Bool.true_and, decide_eq_true_iff]
  exact Nat.le_trans h.2 e
theorem e_sameR {neg : Bool} {d : PyData} {x y : MV} {h : MH} (hx : reify 6 h x = some d) (hy : reify 6 h y = some d) (hd : SeqAt.shaped d = true) : mEqD neg x y h = some (.d (.bool (!neg)), h) := by
  unfold mEqD
  have hc : d.canLay0 = true := by
    unfold SeqAt.shaped at hd
    exact (Bool.and_eq_true_iff.mp hd).1
  rw [hx, hy, Option.bind_some, Option.bind_some, if_pos ⟨hd, hd⟩, SeqAt.eqv_refl d hc]
  cases neg <;> rfl
theorem e_same {neg : Bool} {d : PyData} {h : MH} (hd : SeqAt.shaped d = true) : mEqD neg (.d d) (.d d) h = some (.d (.bool (!neg)), h) := e_sameR (reify_d _ _ _) (reify_d _ _ _) hd
/-- a list against the empty one -/
theorem e_nilE {neg : Bool} {ds : List PyData} {x : MV} {h : MH} (hx : reify 6 h x = some (.list ds)) (hd : SeqAt.shaped (.list ds) = true) : mEqD neg x (.d (.list [])) h = some (.d (.bool (if neg = true then !decide (ds = []) else decide (ds = []))), h) := by
  unfold mEqD
  rw [hx, reify_d, Option.bind_some, Option.bind_some, if_pos ⟨hd, pl_sh (n := 1) (pl_list fun d m => nomatch m)⟩]
  cases ds with
  | nil => rw [PyData.eqv, PyData.eqvAll]; simp
  | cons a as => rw [PyData.eqv, PyData.eqvAll]; simp
/-! ### a written dict -/
theorem valG_out {κ β : Type} [DecidableEq κ] {kvs : List (κ × β)} {k : κ} (h : k ∉ kvs.map (·.1)) : valG kvs k = none := by
  induction kvs with
  | nil => rfl
  | cons p ps ih =>
    rw [List.map_cons, List.mem_cons] at h
    rw [valG_cons, if_neg (fun e => h (.inl e.symm)), ih (fun e => h (.inr e))]
theorem mergeG_app : ∀ {more kvs : List (Key × MV)}, ((kvs ++ more).map (·.1)).Nodup → mergeG kvs more = kvs ++ more
  | [], kvs, _ => by simp [mergeG]
  | p :: more, kvs, h => by
    have e : putG kvs p.1 p.2 = kvs ++ [p] := by
      unfold putG hasG
      rw [valG_out]
      · rfl
      · rw [List.map_append, List.nodup_append] at h
        exact fun m => h.2.2 _ m _ (by simp) rfl
    show mergeG (putG kvs p.1 p.2) more = _
    rw [e, mergeG_app (by rw [List.append_assoc]; exact h), List.append_assoc]; rfl
theorem mergeG_new {more : List (Key × MV)} (h : (more.map (·.1)).Nodup) : mergeG [] more = more := mergeG_app (kvs := []) h
end M
namespace M
open PySem PySem.Spec PyProof.Rows L2
open Evl (Ex ex_rd ex_l ex_t rMax2)
open G (dpx dpax dpa_len dpa_get dpa_app dpa_set ex_none wipe_get wipe_eq wipe_wipe RD UD CD Ret ti li)
/-! ### {k: v for ..} -/
noncomputable def dcLoop (g : MG) (mt : MT) (mk mv : ME) (src : List (Nat × List MV)) (env : Env) : List MV → List (Key × MV) → MH → Option (List (Key × MV) × MH)
  | [], acc, h => srcIf src h (some (acc, h))
  | x :: xs, acc, h => srcIf src h ((g x env).bind fun env' => (mt env' h).bind fun b => if b.1 = true then (mk env' b.2).bind fun y => (mv env' y.2).bind fun z => (keyOf y.1).bind fun k => if acc.length < 100000 then dcLoop g mt mk mv src env xs (putG acc k z.1) z.2 else none else dcLoop g mt mk mv src env xs acc b.2)
noncomputable def mDc (mi : MI) (g : MG) (mt : MT) (mk mv : ME) (vs : List Nat) : ME := fun env h => (mi env h).bind fun s => (dcLoop g mt mk mv s.1.1 (wipeM env vs) s.1.2 [] s.2).map fun r => (.ref r.2.length, r.2 ++ [.dct r.1])
section
variable {K : PySem.W.Frag} {wi : TI} {mi : MI} {g : TG} {mg : MG} {tk tv : TE} {mk mv : ME} {tt : TT} {mt : MT}
theorem KRep.mono' {ι ι' : List Addr} {C C' : Hp} {kvs : List (Key × V)} {kws : List (Key × MV)} (p : ι <+: ι') (e : Ex C C') (h : KRep K ι C kvs kws) : KRep K ι' C' kvs kws := ⟨h.1, h.2.mono p e⟩
theorem KRep.up' {w w' : Wd} {kvs : List (Key × V)} {kws : List (Key × MV)} (s : Step w w') (h : KRep K w.ι w.C kvs kws) : KRep K w'.ι w'.C kvs kws := h.mono' s.pre s.ex
theorem sm_dc {vs : List Nat} (hI : SimI K wi mi) (hg : SimG K g mg vs) (ht : SimT K tt mt) (hk : SimE K tk mk) (hv : SimE K tv mv) : SimE K (tDc wi g tt tk tv vs) (mDc mi mg mt mk mv vs) := fun w h σ env v0 hE0 rl re e Q q => by
  obtain ⟨⟨⟨src, items⟩, h1⟩, e1, e⟩ := bind_of e
  obtain ⟨⟨kws, hE⟩, e2, e⟩ := map_of e
  cases e
  refine hI w h σ env _ h1 rl re e1 _ fun w1 J s1 r1 ok D hD => ?_
  have hD0 : w.H D = none := by
    cases z : w.H D with
    | none => rfl
    | some o => exact absurd hD (s1.kp D (by rw [z]; exact fun q => nomatch q))
  refine ⟨fun i m H' => ∃ w' h' acc accM, w'.H = H' ∧ H' D = some (.dK acc) ∧ D ∉ w'.ι ∧ w'.C D = none ∧ Step w1 w' ∧ Rel K w' h' ∧ KRep K w'.ι w'.C acc accM ∧ i ≤ items.length ∧ m = items.length - i ∧
    dcLoop mg mt mk mv src (wipeM env vs) (items.drop i) accM h' = some (kws, hE), ?_, ?_⟩
  · obtain ⟨s2, r2⟩ := garb (o := .dK []) (Step.refl w1) r1 hD (r1.notin hD) (r1.cnone hD)
    exact ⟨_, ⟨w1.ι, w1.C, upd w1.H D (.dK [])⟩, h1, [], [], rfl, upd_same, r1.notin hD, r1.cnone hD, s2, r2, ⟨rfl, .nil⟩, Nat.zero_le _, rfl, e2⟩
  · rintro i m H' ⟨w', h', acc, accM, rfl, hA, hi, hc, s2, r2, ra, hl, rfl, el⟩
    by_cases hlt : i < items.length
    · rw [List.drop_eq_getElem_cons hlt, dcLoop] at el
      obtain ⟨hs, el⟩ := srcIf_of el
      obtain ⟨env2, g1, el⟩ := bind_of el
      obtain ⟨⟨b, h2⟩, g2, el⟩ := bind_of el
      obtain ⟨_, go⟩ := ok w' h' s2 r2 hs
      obtain ⟨go1, go2⟩ := go i items[i] (by simp [hlt])
      refine .inr ⟨go1, fun H2 => ∃ w' h' acc accM, w'.H = H2 ∧ H2 D = some (.dK acc) ∧ D ∉ w'.ι ∧ w'.C D = none ∧ Step w1 w' ∧ Rel K w' h' ∧ KRep K w'.ι w'.C acc accM ∧ dcLoop mg mt mk mv src (wipeM env vs) (items.drop (i + 1)) accM h' = some (kws, hE), fun H2 n => ?_, fun u H2 y => ?_⟩
      · obtain ⟨w', h', acc, accM, a1, a2, a3, a4, a5, a6, a7, a9⟩ := n
        exact ⟨_, by omega, w', h', acc, accM, a1, a2, a3, a4, a5, a6, a7, hlt, rfl, a9⟩
      · obtain ⟨w3, rfl, s3, r3, x3⟩ := go2 u H2 y
        have stay : ∀ {wa wb : Wd}, Step wa wb → wa.H D = some (.dK acc) → D ∉ wa.ι → wa.C D = none → wb.H D = some (.dK acc) ∧ D ∉ wb.ι ∧ wb.C D = none := fun {wa wb} s a b c => by
          refine ⟨s.fr D _ a b, fun m => ?_, s.nc D (by rw [a]; exact fun q => nomatch q) c⟩
          rcases s.nw D m with z | z
          · exact b z
          · rw [a] at z; cases z
        obtain ⟨d1, d2, d3⟩ := stay s3 hA hi hc
        have rw0 : RepE K w3 (wipe σ vs) (wipeM env vs) := (((re.up s1).up s2).up s3).wipe vs
        refine hg w3 h' _ _ u items[i] env2 r3 rw0 x3 g1 _ fun σ3 re3 l3 k3 => ⟨?_, ?_⟩
        · rw [show wipe σ3 vs = wipe (wipe σ vs) vs from wipe_eq l3 k3, wipe_wipe]
        · refine ht w3 h' σ3 env2 b h2 r3 re3 g2 _ fun w4 s4 r4 => ?_
          obtain ⟨d4, d5, d6⟩ := stay s4 d1 d2 d3
          cases b with
          | true =>
            replace el : (mk env2 h2).bind (fun y => (mv env2 y.2).bind fun z => (keyOf y.1).bind fun k => if accM.length < 100000 then dcLoop mg mt mk mv src (wipeM env vs) (items.drop (i + 1)) (putG accM k z.1) z.2 else none) = some (kws, hE) := el
            obtain ⟨⟨y, h3⟩, g3, el⟩ := bind_of el
            obtain ⟨⟨z, h4⟩, g4, el⟩ := bind_of el
            obtain ⟨k, g5, el⟩ := bind_of el
            simp only at el
            split at el
            · rename_i hz
              refine iteT (hk w4 h2 σ3 env2 y h3 r4 (re3.up s4) g3 _ fun w5 uy s5 r5 x5 => hv w5 h3 σ3 env2 z h4 r5 ((re3.up s4).up s5) g4 _ fun w6 uz s6 r6 x6 => ?_)
              obtain ⟨d7, d8, d9⟩ := stay s5 d4 d5 d6
              obtain ⟨d10, d11, d12⟩ := stay s6 d7 d8 d9
              have := keyOf_ok (x5.up s6) g5
              subst this
              have ss := (((s2.trans s3).trans s4).trans s5).trans s6
              have ra6 := (((ra.up' s3).up' s4).up' s5).up' s6
              have rp := ra6.put x6 k
              obtain ⟨s7, r7⟩ := garb (o := .dK (putK acc k uz)) ss r6 hD d11 d12
              exact ⟨acc, k, rfl, d10, by rw [ra6.len]; exact Nat.lt_of_lt_of_le hz sl_100000, ⟨w6.ι, w6.C, upd w6.H D (.dK (putK acc k uz))⟩, h4, putK acc k uz, putG accM k z, rfl, upd_same, d11, d12, s7, r7, rp, el⟩
            · cases el
          | false =>
            exact iteF ⟨w4, h2, acc, accM, rfl, d4, d5, d6, (s2.trans s3).trans s4, r4, (ra.up' s3).up' s4, el⟩
    · have ei : i = items.length := by omega
      subst ei
      rw [List.drop_length, dcLoop] at el
      obtain ⟨hs, el⟩ := srcIf_of el
      cases el
      refine .inl ⟨(ok w' _ s2 r2 hs).1, ?_⟩
      replace r2 : Rel K w' hE := r2
      have pf : w'.ι <+: w'.ι ++ [D] := List.prefix_append _ _
      have s12 := s1.trans s2
      refine q ⟨w'.ι ++ [D], w'.C, w'.H⟩ (.ref D) ⟨s12.pre.trans pf, s12.ex, s12.fr, fun a m => ?_, s12.nc, s12.kp⟩ ⟨r2.ch, ?_, ?_, fun a m => ?_, fun n a b e1 e2 => ?_⟩ (.ref ?_)
      · rcases List.mem_append.mp m with z | z
        · exact s12.nw a z
        · rw [List.mem_singleton.mp z]; exact .inr hD0
      · show (w'.ι ++ [D]).length = _
        rw [List.length_append, List.length_append, r2.len]; rfl
      · refine List.nodup_append.mpr ⟨r2.nd, by simp, fun a m b m' => ?_⟩
        rw [List.mem_singleton.mp m']
        exact fun z => hi (by rw [← z]; exact m)
      · rcases List.mem_append.mp m with z | z
        · exact r2.ow a z
        · rw [List.mem_singleton.mp z]; exact hc
      · replace e1 : (w'.ι ++ [D])[n]? = some a := e1
        replace e2 : (hE ++ [Ob.dct kws])[n]? = some b := e2
        by_cases z : n < hE.length
        · rw [List.getElem?_append_left z] at e2
          rw [List.getElem?_append_left (by rw [r2.len]; exact z)] at e1
          obtain ⟨o, q1, q2⟩ := r2.ob n a b e1 e2
          exact ⟨o, q1, q2.mono pf fun _ _ q => q⟩
        · rw [List.getElem?_append_right (by omega)] at e2
          rw [List.getElem?_append_right (by rw [r2.len]; omega), r2.len] at e1
          have hz : n - hE.length = 0 := by
            cases hn : n - hE.length with
            | zero => rfl
            | succ k => rw [hn] at e2; simp at e2
          rw [hz] at e2 e1
          simp at e2 e1
          subst e2 e1
          exact ⟨_, hA, .dct ra.1 (ra.2.mono pf fun _ _ q => q)⟩
      · show (w'.ι ++ [D])[hE.length]? = some D
        rw [← r2.len, List.getElem?_append_right (Nat.le_refl _), Nat.sub_self]; rfl
/-- over data, the heap stays -/
theorem dc_data {α : Type} {h : MH} {env : Env} (φ : α → MV) (kf : α → Key) (vf : α → MV) : ∀ (ks : List α) (acc : List (Key × MV)), (∀ k ∈ ks, ∃ e', mg (φ k) env = some e' ∧ ∃ y, mk e' h = some (y, h) ∧ keyOf y = some (kf k) ∧ mv e' h = some (vf k, h)) → acc.length + ks.length < 100000 →
    dcLoop mg mYes mk mv [] env (ks.map φ) acc h = some (ks.foldl (fun a k => putG a (kf k) (vf k)) acc, h)
  | [], acc, _, _ => by rw [List.map_nil, dcLoop, srcIf_nil]; rfl
  | k :: ks, acc, hb, hz => by
    obtain ⟨e', e1, y, e2, e3, e4⟩ := hb k List.mem_cons_self
    rw [List.map_cons, dcLoop, srcIf_nil, e1, Option.bind_some]
    show (some (true, h)).bind _ = _
    rw [Option.bind_some]
    have hp := put_len acc (kf k) (vf k)
    rw [List.length_cons] at hz
    simp only [if_true, e2, Option.bind_some, e4, e3]
    rw [if_pos (by omega), dc_data φ kf vf ks (putG acc (kf k) (vf k)) (fun x m => hb x (List.mem_cons_of_mem _ m)) (by omega)]
    rfl
theorem mDc_data {α : Type} {h h1 : MH} {env : Env} {vs : List Nat} (ks : List α) (φ : α → MV) (kf : α → Key) (vf : α → MV) (hi : mi env h = some (([], ks.map φ), h1)) (hb : ∀ k ∈ ks, ∃ e', mg (φ k) (wipeM env vs) = some e' ∧ ∃ y, mk e' h1 = some (y, h1) ∧ keyOf y = some (kf k) ∧ mv e' h1 = some (vf k, h1)) (hz : ks.length < 100000) :
    mDc mi mg mYes mk mv vs env h = some (.ref h1.length, h1 ++ [.dct (ks.foldl (fun a k => putG a (kf k) (vf k)) [])]) := by
  unfold mDc
  rw [hi, Option.bind_some]
  show (dcLoop mg mYes mk mv [] (wipeM env vs) (ks.map φ) [] h1).map _ = _
  rw [dc_data φ kf vf ks [] hb (by simpa using hz)]
  rfl
end
/-! ### xs.pop(0) as a value -/
def mPop0E (mo : ME) : ME := fun env h => (mo env h).bind fun o => (asL o.2 o.1).bind fun l => match l.2 with
  | x :: r => some (x, o.2.set l.1 (.lst r))
  | [] => none
theorem sm_pop0 {K : PySem.W.Frag} {to_ : TE} {mo : ME} (h1 : SimE K to_ mo) : SimE K (tBM K "list" rPopAt to_ (tCons (tC (.int 0)) tNil)) (mPop0E mo) := fun w h σ env v h' rl re e Q p => by
  obtain ⟨⟨o, hh1⟩, e1, e⟩ := bind_of e
  obtain ⟨⟨n, xs⟩, e4, e⟩ := bind_of e
  cases xs with
  | nil => cases e
  | cons x rest =>
    cases e
    obtain ⟨eo, ex⟩ := asL_of e4
    simp only at eo ex
    subst eo
    refine h1 w h σ env _ hh1 rl re e1 _ fun w1 u1 s1 r1 x1 => ?_
    obtain ⟨a, vs0, rfl, g01, g02, g03⟩ := r1.lst x1 ex
    cases g03 with
    | cons q1 q2 =>
      rename_i v vs
      refine ⟨.inl ⟨rfl, _, .inl (.inl g02)⟩, ?_⟩
      obtain ⟨s4, r4⟩ := write_ok (o := .lst vs) r1 g01 (.lst q2)
      have ss := s1.trans s4
      refine ⟨a, v :: vs, 0, 0, v, rfl, rfl, g02, by decide, by decide, ?_, rfl, p (w1.write a _) v ss r4 (q1.up s4)⟩
      rw [List.length_cons]
      unfold seqIndex?
      simp
      try omega
end M
namespace Cmb
open PySem PySem.Spec
open Sem (wp)
theorem mro_cmb : mroOf (.type "itertools.combinations") = pure [.type "itertools.combinations", .type "object"] := by rw [mroOf_type]; kernel_rfl
theorem lookup_cmb_new : typeLookup (.type "itertools.combinations") "__new__" = pure (some (.builtin "itertools.combinations.__new__")) := by rw [typeLookup_type, builtinLookup_eq_fast]; kernel_rfl
theorem slot_cmb_init : Slot "itertools.combinations" "__init__" "object.__init__" :=
  .of (owner := "object") (n := "__init__") (by rw [typeLookup_type, builtinLookup_eq_fast]; kernel_rfl) (by decide +kernel) (by decide +kernel) (by decide +kernel)
    (by first | exact .inl (by decide +kernel) | exact .inr (by decide +kernel)) (by rw [isSubtype_type]; kernel_rfl)
theorem sub_cmb : isSubtype (.type "itertools.combinations") (.type "itertools.combinations") = pure true := by rw [isSubtype_type]; kernel_rfl
theorem called_cmb : TypeCalled "itertools.combinations" "itertools.combinations.__new__" "object.__init__" :=
  ⟨by decide +kernel, by decide +kernel, ⟨_, _, mro_cmb⟩, madeBy_type mro_cmb lookup_cmb_new (by decide +kernel), by decide +kernel, sub_cmb, slot_cmb_init⟩
theorem typeCall_cmb_2 (a b : Value) : checkTypeCall "itertools.combinations" ⟨[a, b], []⟩ = pure () := by kernel_rfl
theorem newCall_cmb_2 (a b : Value) : checkBuiltinCall "itertools.combinations.__new__" ⟨[.type "itertools.combinations", a, b], []⟩ = pure () := by kernel_rfl
theorem entry_cmb_new : entryFor table "itertools.combinations.__new__" = some Builtin.«itertools.combinations.__new__» := entryFor_of_tree (by kernel_rfl)
theorem slot_cmb_iter : Slot "itertools.combinations" "__iter__" "itertools.combinations.__iter__" :=
  .of (owner := "itertools.combinations") (n := "__iter__") (by rw [typeLookup_type, builtinLookup_eq_fast]; kernel_rfl) (by decide +kernel) (by decide +kernel) (by decide +kernel)
    (by first | exact .inl (by decide +kernel) | exact .inr (by decide +kernel)) sub_cmb
theorem slot_cmb_next : Slot "itertools.combinations" "__next__" "itertools.combinations.__next__" :=
  .of (owner := "itertools.combinations") (n := "__next__") (by rw [typeLookup_type, builtinLookup_eq_fast]; kernel_rfl) (by decide +kernel) (by decide +kernel) (by decide +kernel)
    (by first | exact .inl (by decide +kernel) | exact .inr (by decide +kernel)) sub_cmb
theorem entry_cmb_iter : entryFor table "itertools.combinations.__iter__" = some Builtin.«dict_keyiterator.__iter__» :=
  entryFor_alias (id' := "dict_keyiterator.__iter__") (by kernel_rfl) (by first | rfl | decide +kernel | (unfold String.splitOn; simp +decide [String.splitOnAux])) (by decide +kernel) (by kernel_rfl)
theorem entry_cmb_next : entryFor table "itertools.combinations.__next__" = some Builtin.«itertools.combinations.__next__» := entryFor_of_tree (by kernel_rfl)
theorem owner_cmb : Manifest.owners.lookup (String.ofList ['s', 'n', 'o', 'i', 't', 'a', 'n', 'i', 'b', 'm', 'o', 'c', '.', 's', 'l', 'o', 'o', 't', 'r', 'e', 't', 'i'].reverse) = some Manifest.sig_itertools_combinations := by kernel_rfl
theorem args_cmb_iter (a : Value) : argsOk "itertools.combinations.__iter__" ⟨[a], []⟩ := by
  unfold argsOk; rw [signature?_of (id := "itertools.combinations.__iter__") (n := ['_', '_', 'r', 'e', 't', 'i', '_', '_']) (o := ['s', 'n', 'o', 'i', 't', 'a', 'n', 'i', 'b', 'm', 'o', 'c', '.', 's', 'l', 'o', 'o', 't', 'r', 'e', 't', 'i']) (by kernel_rfl) owner_cmb]; kernel_rfl
theorem args_cmb_next (a : Value) : argsOk "itertools.combinations.__next__" ⟨[a], []⟩ := by
  unfold argsOk; rw [signature?_of (id := "itertools.combinations.__next__") (n := ['_', '_', 't', 'x', 'e', 'n', '_', '_']) (o := ['s', 'n', 'o', 'i', 't', 'a', 'n', 'i', 'b', 'm', 'o', 'c', '.', 's', 'l', 'o', 'o', 't', 'r', 'e', 't', 'i']) (by kernel_rfl) owner_cmb]; kernel_rfl
theorem noDict_cmb : typeHasDict (.type "itertools.combinations") = false := by decide +kernel
/-- a combinations object for pairs: its pool, its state, what it gave last, its two places -/
abbrev cmbObj (p : Addr) (st : Int) (last : Value) (a b : Nat) : Obj := { cls := .type "itertools.combinations", dict := none, data := .fields #[.ref p, .int st 0, last, .int (a : Int) 0, .int (b : Int) 0], slots := #[] }
abbrev IsTup (h : Heap) (p : Addr) (its : List Value) : Prop := h.get? p = some { cls := .type "tuple", data := .seq its.toArray }
section
variable {prog : Program} {w : World} {A : Around} {E : Value → Shared → Prop} {s : Shared}
theorem cmb_collect {Q : List Value → Shared → Prop} (it : Addr) {o : Obj} {xs : Array Value} {n : Nat} (ho : s.heap.get? it = some o) (hc : o.cls = .type "list") (hd : o.data = .seq xs n) (hsz : xs.size ≤ sizeLine)
    (hQ : ∀ h', s.heap.objs.size ≤ h'.objs.size → (∀ b o', s.heap.get? b = some o' → h'.get? b = some o') → Q xs.toList { s with heap := h' }) : wpAny (model prog w) A (collect (.ref it)) Q E s := by
  have hS : (s.heap.push { cls := .type "list", data := .seq ([] : List Value).toArray }).get? s.heap.objs.size = some { cls := .type "list", data := .seq #[] 0 } := Heap.get?_push_size _ rfl
  have hS2 := Heap.get?_update_self (Obj.mapSeq (· ++ xs)) hS rfl
  have sz : s.heap.objs.size ≤ ((s.heap.push { cls := .type "list", data := .seq ([] : List Value).toArray }).update s.heap.objs.size (Obj.mapSeq (· ++ xs))).objs.size := by
    rw [Heap.size_update, Heap.size_push]; omega
  have kp : ∀ b o', s.heap.get? b = some o' → ((s.heap.push { cls := .type "list", data := .seq ([] : List Value).toArray }).update s.heap.objs.size (Obj.mapSeq (· ++ xs))).get? b = some o' := fun b o' hb =>
    (Heap.get?_update_other _ _ (Nat.ne_of_gt (Heap.lt_size hb))).trans (Heap.get?_push_of_some _ hb)
  have e : ((#[] : Array Value) ++ xs).toList = xs.toList := by simp
  unfold collect
  refine wpAny_bind (wpAny_runValue (codeAny_builtin F.entry_proto_collect ?_)); rw [Around.under_plainId F.plain_proto_collect _]
  show wpAny _ A.in1 (newList [] >>= fun l => again (.builtin "list.__iadd__" ⟨[l, .ref it], []⟩)) _ _ s
  refine wpAny_bind (wpAny_newObj_type (wpAny_pure ⟨plainId_quiet F.plain_list_iadd _, codeAny_builtin F.entry_list_iadd ?_⟩))
  rw [Around.under_plainId F.plain_list_iadd _]
  show wpAny _ A.in1 (Builtin.List.listExtendWith (.ref s.heap.objs.size) (.ref it) (.ref s.heap.objs.size)) _ _ { s with heap := s.heap.push _ }
  have last : wpAny (model prog w) A (match Value.ref s.heap.objs.size with | Value.ref a => (do match (← load a).data with | Data.seq xs _ => pure xs.toList | _ => unsupported "internal:collect") | _ => unsupported "internal:collect") Q E
      { s with heap := (s.heap.push { cls := .type "list", data := .seq ([] : List Value).toArray }).update s.heap.objs.size (Obj.mapSeq (· ++ xs)) } := by
    refine wpAny_bind (wpAny_load hS2 (wpAny_pure ?_))
    have := hQ _ sz kp
    rw [← e] at this
    exact this
  refine wpAny_mono (wpAny_extend_seq (hsz := hsz) (A := A) (R := fun r s' => r = .ok (.ret (.ref s.heap.objs.size)) ∧ s' = { s with heap := (s.heap.push { cls := .type "list", data := .seq ([] : List Value).toArray }).update s.heap.objs.size (Obj.mapSeq (· ++ xs)) })
    (s := { s with heap := s.heap.push { cls := .type "list", data := .seq ([] : List Value).toArray } }) _ it _ 0 (.inl rfl) hS (Heap.get?_push_of_some _ ho) hc hd ⟨rfl, rfl⟩) (fun f s' h => ?_) (fun e s' h => ?_)
  · cases f with
    | done f => obtain ⟨e1, rfl⟩ := h; cases e1; exact last
    | again c => exact ⟨h.1, codeAny_mono h.2 fun r s2 hr => (by obtain ⟨rfl, rfl⟩ := hr; exact last)⟩
  · obtain ⟨e1, _⟩ := h; cases e1
end
def cmbSpec (l : Addr) : Spec := fun _ R s => ∃ o its n, s.heap.get? l = some o ∧ o.cls = .type "list" ∧ o.data = .seq its n ∧ its.size ≤ sizeLine ∧
  ∀ h' p c, IsTup h' p its.toList → h'.get? c = some (cmbObj p (if 2 > its.size then 2 else 0) .none 0 1) → p ≠ c → s.heap.objs.size ≤ p → s.heap.objs.size ≤ c → (∀ b o', s.heap.get? b = some o' → h'.get? b = some o') → R (.ok (.ret (.ref c))) { s with heap := h' }
theorem meets_cmb_new (l : Addr) (t : Tok) : Meets (Builtin.«itertools.combinations.__new__» ⟨[.type "itertools.combinations", .ref l, .int 2 t], []⟩) (cmbSpec l) :=
  .of_wp fun prog w A R s h => by
    obtain ⟨o, its, n, ho, hc, hd, hz, h⟩ := h
    have hsub : isSubtype (.type "itertools.combinations") (.type ("itertools." ++ "combinations")) = pure true := sub_cmb
    have hdd := noDict_cmb
    repeat (first
      | refine cmb_collect l ho hc hd hz fun h1 hz1 hk => ?_
      | wp_step
      | simp only [List.head?_cons, Option.some_or, List.getElem?_cons_succ, List.getElem?_cons_zero, List.length_cons, List.length_nil, List.forIn_nil])
    refine ⟨_, rfl, ?_⟩
    have e1 : (h1.push { cls := Value.type "tuple", data := Data.seq its.toList.toArray }).objs.size = h1.objs.size + 1 := Heap.size_push ..
    refine h _ h1.objs.size _ ?_ ?_ ?_ hz1 ?_ ?_
    · exact Heap.get?_push_of_some _ (Heap.get?_push_size _ rfl)
    · rw [Heap.get?_push_size _ rfl, Array.length_toList]; rfl
    · rw [e1]; exact Nat.ne_of_lt (Nat.lt_succ_self _)
    · exact Nat.le_trans hz1 (by rw [e1]; omega)
    · exact fun b o' hb => Heap.get?_push_of_some _ (Heap.get?_push_of_some _ (hk b o' hb))
section
variable {prog : Program} {w : World} {A : Around} {E : Value → Shared → Prop} {s : Shared}
theorem call_cmb {l : Addr} {o : Obj} {its : Array Value} {n : Nat} {t : Tok} {Q : Value → Shared → Prop} (ho : s.heap.get? l = some o) (hc : o.cls = .type "list") (hd : o.data = .seq its n) (hz : its.size ≤ sizeLine)
    (h : ∀ h' p c, IsTup h' p its.toList → h'.get? c = some (cmbObj p (if 2 > its.size then 2 else 0) .none 0 1) → p ≠ c → s.heap.objs.size ≤ p → s.heap.objs.size ≤ c → (∀ b o', s.heap.get? b = some o' → h'.get? b = some o') → Q (.ref c) { s with heap := h' }) :
    wpAny (model prog w) A (call (.type "itertools.combinations") [.ref l, .int 2 t]) Q E s :=
  callType_new called_cmb (by decide +kernel) (typeCall_cmb_2 _ _) (newCall_cmb_2 _ _) (fun obj => F.args_object_init_3 obj _ _) entry_cmb_new (meets_cmb_new l t)
    ⟨o, its, n, ho, hc, hd, hz, fun h' p c h1 h2 h3 h4 h5 h6 => ⟨⟨_, h2, rfl⟩, h h' p c h1 h2 h3 h4 h5 h6⟩⟩
theorem iter_cmb {c p : Addr} {st : Int} {last : Value} {a b : Nat} {Q : Value → Shared → Prop} (hit : s.heap.get? c = some (cmbObj p st last a b)) (h : Q (.ref c) s) : wpAny (model prog w) A (pyIter (.ref c)) Q E s := by
  have hT : s.TypeIs (.ref c) "itertools.combinations" := ⟨_, hit, rfl⟩
  refine wpAny_pyIter_slot hT slot_cmb_iter (wpAny_call_entry slot_cmb_iter hT entry_cmb_iter ?_ (args_cmb_iter _))
  exact (show wpAny _ _ (ret (.ref c)) _ _ s from wpAny_pure ⟨_, rfl, "itertools.combinations", _, hT, slot_cmb_next.lookup, h⟩)
/-- the next places -/
def nx (n : Nat) (q : Nat × Nat) : Option (Nat × Nat) := if q.2 + 1 < n then some (q.1, q.2 + 1) else if q.1 + 2 < n then some (q.1 + 1, q.1 + 2) else none
/-- the first pair -/
theorem cmb_first {c p : Addr} {last : Value} {its : List Value} {x y : Value} {Q : Option Value → Shared → Prop} (hit : s.heap.get? c = some (cmbObj p 0 last 0 1)) (hp : IsTup s.heap p its) (hpc : p ≠ c) (hx : its[0]? = some x) (hy : its[1]? = some y)
    (hQ : ∀ h' T, h'.get? c = some (cmbObj p 1 (.ref T) 0 1) → h'.get? T = some { cls := .type "tuple", data := .seq #[x, y] } → s.heap.objs.size ≤ T → (∀ b o', b ≠ c → s.heap.get? b = some o' → h'.get? b = some o') → Q (some (.ref T)) { s with heap := h' }) :
    wpAny (model prog w) A (callSpecial? (.ref c) "__next__") Q E s := by
  have hT : s.TypeIs (.ref c) "itertools.combinations" := ⟨_, hit, rfl⟩
  refine wpAny_callSpecial?_slot (name := Str.ofString "__next__") hT slot_cmb_next (wpAny_call_entry slot_cmb_next hT entry_cmb_next ?_ (args_cmb_next _))
  have i0 : (#[Value.ref p, .int 0 0, last, .int ((0 : Nat) : Int) 0, .int ((1 : Nat) : Int) 0] : Array Value)[0]? = some (.ref p) := rfl
  have i1 : (#[Value.ref p, .int 0 0, last, .int ((0 : Nat) : Int) 0, .int ((1 : Nat) : Int) 0] : Array Value)[1]? = some (.int 0 0) := rfl
  repeat (first
      | refine wpAny_field hit rfl i0 ?_
      | refine wpAny_field hit rfl i1 ?_
      | wp_step)
  obtain ⟨h1, eh1⟩ : ∃ h1, h1 = s.heap.update c (Obj.mapFields fun x => x.setIfInBounds 1 (rawInt 1)) := ⟨_, rfl⟩
  have c1 : h1.get? c = some (cmbObj p 1 last 0 1) := by rw [eh1]; exact Heap.get?_update_self _ hit rfl
  have z1 : h1.objs.size = s.heap.objs.size := by rw [eh1]; exact Heap.size_update ..
  have k1 : ∀ b, b ≠ c → h1.get? b = s.heap.get? b := fun b hb => by rw [eh1]; exact Heap.get?_update_other _ _ (Ne.symm hb)
  rw [← eh1]
  have el : some ({ cls := Value.type "tuple", data := Data.seq [its.toArray.getD 0 Value.none, its.toArray.getD 1 Value.none].toArray } : Obj) = some { cls := .type "tuple", data := .seq #[x, y] } := by
    simp [Array.getD_eq_getD_getElem?, hx, hy]
  have ct : c ≠ h1.objs.size := Nat.ne_of_lt (Heap.lt_size c1)
  refine ⟨_, rfl, hQ _ h1.objs.size ?_ ?_ (Nat.le_of_eq z1.symm) fun b o' hb hs => ?_⟩
  · exact Heap.get?_update_self _ (Heap.get?_push_of_some _ c1) rfl
  · exact (Heap.get?_update_other _ _ ct).trans ((Heap.get?_push_size _ rfl).trans el)
  · rw [← k1 b hb] at hs
    exact (Heap.get?_update_other _ _ (Ne.symm hb)).trans (Heap.get?_push_of_some _ hs)
def ncm (n : Nat) (l : List Nat) : Option (List Nat) := match (List.range l.length).reverse.find? (fun i => l.getD i 0 != i + n - l.length) with | none => none | some i => some (l.take i ++ (List.range (l.length - i)).map fun k => l.getD i 0 + 1 + k)
theorem ncm_two {n a b : Nat} (h1 : a < b) (h2 : b < n) : ncm n [a, b] = (nx n (a, b)).map fun q => [q.1, q.2] := by
  have e : (List.range [a, b].length).reverse = [1, 0] := rfl
  unfold ncm nx
  rw [e]
  by_cases hb : b + 1 < n
  · have x1 : (([a, b].getD 1 0) != 1 + n - [a, b].length) = true := by simp; omega
    rw [List.find?_cons, x1, if_pos hb]
    simp [List.range_succ]
  · have x1 : (([a, b].getD 1 0) != 1 + n - [a, b].length) = false := by simp; omega
    rw [List.find?_cons, x1, if_neg hb]
    by_cases ha : a + 2 < n
    · have x2 : (([a, b].getD 0 0) != 0 + n - [a, b].length) = true := by simp; omega
      rw [List.find?_cons, x2, if_pos ha]
      simp [List.range_succ]
    · have x2 : (([a, b].getD 0 0) != 0 + n - [a, b].length) = false := by simp; omega
      rw [List.find?_cons, x2, if_neg ha]
      rfl
theorem cmb_item {c p : Addr} {last : Value} {its : List Value} {a b a2 b2 : Nat} {x y : Value} {Q : Option Value → Shared → Prop} (hit : s.heap.get? c = some (cmbObj p 1 last a b)) (hp : IsTup s.heap p its) (hpc : p ≠ c) (hab : a < b) (hb : b < its.length) (hn : nx its.length (a, b) = some (a2, b2)) (hx : its[a2]? = some x) (hy : its[b2]? = some y)
    (hQ : ∀ h' T, h'.get? c = some (cmbObj p 1 (.ref T) a2 b2) → h'.get? T = some { cls := .type "tuple", data := .seq #[x, y] } → s.heap.objs.size ≤ T → (∀ b o', b ≠ c → s.heap.get? b = some o' → h'.get? b = some o') → Q (some (.ref T)) { s with heap := h' }) :
    wpAny (model prog w) A (callSpecial? (.ref c) "__next__") Q E s := by
  have hT : s.TypeIs (.ref c) "itertools.combinations" := ⟨_, hit, rfl⟩
  refine wpAny_callSpecial?_slot (name := Str.ofString "__next__") hT slot_cmb_next (wpAny_call_entry slot_cmb_next hT entry_cmb_next ?_ (args_cmb_next _))
  have i0 : (#[Value.ref p, .int 1 0, last, .int (a : Int) 0, .int (b : Int) 0] : Array Value)[0]? = some (.ref p) := rfl
  have i1 : (#[Value.ref p, .int 1 0, last, .int (a : Int) 0, .int (b : Int) 0] : Array Value)[1]? = some (.int 1 0) := rfl
  repeat (first
      | refine wpAny_field hit rfl i0 ?_
      | refine wpAny_field hit rfl i1 ?_
      | wp_step)
  have hz : its.toArray.size = its.length := List.size_toArray ..
  split
  · rename_i next heq
    have e2 : ncm its.toArray.size [a, b] = some next := heq
    rw [hz, ncm_two hab hb, hn] at e2
    cases e2
    repeat (first
      | refine wpAny_field hit rfl i0 ?_
      | refine wpAny_field hit rfl i1 ?_
      | wp_step)
    obtain ⟨h1, eh1⟩ : ∃ h1, h1 = s.heap.update c (Obj.mapFields fun fs => fs.extract 0 3 ++ (List.map (fun n : Nat => rawInt (n : Int)) ((fun q : Nat × Nat => [q.fst, q.snd]) (a2, b2))).toArray) := ⟨_, rfl⟩
    have c1 : h1.get? c = some (cmbObj p 1 last a2 b2) := by rw [eh1]; exact Heap.get?_update_self _ hit rfl
    have z1 : h1.objs.size = s.heap.objs.size := by rw [eh1]; exact Heap.size_update ..
    have k1 : ∀ b, b ≠ c → h1.get? b = s.heap.get? b := fun b hb => by rw [eh1]; exact Heap.get?_update_other _ _ (Ne.symm hb)
    rw [← eh1]
    have el : some ({ cls := Value.type "tuple", data := Data.seq [its.toArray.getD a2 Value.none, its.toArray.getD b2 Value.none].toArray } : Obj) = some { cls := .type "tuple", data := .seq #[x, y] } := by
      simp [Array.getD_eq_getD_getElem?, hx, hy]
    have ct : c ≠ h1.objs.size := Nat.ne_of_lt (Heap.lt_size c1)
    refine ⟨_, rfl, hQ _ h1.objs.size ?_ ?_ (Nat.le_of_eq z1.symm) fun b o' hb hs => ?_⟩
    · exact Heap.get?_update_self _ (Heap.get?_push_of_some _ c1) rfl
    · exact (Heap.get?_update_other _ _ ct).trans ((Heap.get?_push_size _ rfl).trans el)
    · rw [← k1 b hb] at hs
      exact (Heap.get?_update_other _ _ (Ne.symm hb)).trans (Heap.get?_push_of_some _ hs)
  · rename_i heq
    have e2 : ncm its.toArray.size [a, b] = none := heq
    rw [hz, ncm_two hab hb, hn] at e2
    cases e2
theorem stop_it {α : Type} {Q : α → Shared → Prop} (hh : A.handled = none) (h : ∀ e h', (∃ o, s.heap.objs.size ≤ e ∧ h'.get? e = some o ∧ o.cls = .type "StopIteration") → (∀ b o, s.heap.get? b = some o → h'.get? b = some o) → E (.ref e) { s with heap := h' }) : wpAny (model prog w) A (Builtin.Itertools.itStop : Sem α) Q E s := by
  unfold Builtin.Itertools.itStop; refine wpAny_bind ?_; simp only [newExc, newTuple]
  refine wpAny_bind (wpAny_newObj_type (wpAny_bind (m := firstArgMember _ _) (wpAny_of_eq (a := Value.none) (by first | rfl | (simp only [firstArgMember]; rfl)) (wpAny_newObj_type ?_ (by size_fits)))) (by size_fits))
  simp only [raiseNew]; refine wpAny_bind (wpAny_handled ?_); rw [hh]; refine wpAny_bind (wpAny_pure (wpAny_throw (h _ _ ⟨_, ?_, Heap.get?_push_size _ rfl, rfl⟩ fun b o q => Heap.get?_push_of_some _ (Heap.get?_push_of_some _ q))))
  rw [Heap.size_push]; omega
theorem cmb_end {c p : Addr} {last : Value} {its : List Value} {a b : Nat} {st : Int} {Q : Option Value → Shared → Prop} (hh : A.handled = none) (hit : s.heap.get? c = some (cmbObj p st last a b)) (hp : IsTup s.heap p its) (hpc : p ≠ c) (hab : a < b) (hb : st = 1 → b < its.length) (hst : st = 1 ∧ nx its.length (a, b) = none ∨ st = 2)
    (hQ : ∀ e h', (∃ o, h'.get? e = some o ∧ o.cls = .type "StopIteration") → (∀ b o', b ≠ c → s.heap.get? b = some o' → h'.get? b = some o') → E (.ref e) { s with heap := h' }) :
    wpAny (model prog w) A (callSpecial? (.ref c) "__next__") Q E s := by
  have hT : s.TypeIs (.ref c) "itertools.combinations" := ⟨_, hit, rfl⟩
  refine wpAny_callSpecial?_slot (name := Str.ofString "__next__") hT slot_cmb_next (wpAny_call_entry slot_cmb_next hT entry_cmb_next ?_ (args_cmb_next _))
  have i0 : (#[Value.ref p, .int st 0, last, .int (a : Int) 0, .int (b : Int) 0] : Array Value)[0]? = some (.ref p) := rfl
  have i1 : (#[Value.ref p, .int st 0, last, .int (a : Int) 0, .int (b : Int) 0] : Array Value)[1]? = some (.int st 0) := rfl
  have hh1 : A.in1.handled = none := hh
  have hz : its.toArray.size = its.length := List.size_toArray ..
  rcases hst with ⟨rfl, hn⟩ | rfl
  · repeat (first
      | refine wpAny_field hit rfl i0 ?_
      | refine wpAny_field hit rfl i1 ?_
      | wp_step)
    split
    · rename_i next heq
      have e2 : ncm its.toArray.size [a, b] = some next := heq
      rw [hz, ncm_two hab (hb rfl), hn] at e2
      cases e2
    · refine wpAny_bind (wpAny_setField hit rfl (by simp) (stop_it hh1 fun e h' he hk => hQ e h' (he.imp fun _ z => z.2) fun b o' hb hs => hk b o' ?_))
      exact (Heap.get?_update_other _ _ (Ne.symm hb)).trans hs
  · repeat (first
      | refine wpAny_field hit rfl i0 ?_
      | refine wpAny_field hit rfl i1 ?_
      | refine stop_it hh1 fun e h' he hk => hQ e h' (he.imp fun _ z => z.2) fun b o' _ hs => hk b o' hs
      | wp_step)
theorem next_of {c : Addr} {Q : Option Value → Shared → Prop} (h : wpAny (model prog w) A (callSpecial? (.ref c) "__next__") (fun r s1 => ∃ v, r = some v ∧ Q (some v) s1) (fun _ _ => False) s) : wpAny (model prog w) A (pyNext (.ref c)) Q E s := by
  unfold pyNext
  refine wpAny_bind (wpAny_attempt (wpAny_mono h (fun r s1 hr => ?_) fun e s1 he => he.elim))
  obtain ⟨v, rfl, hv⟩ := hr
  exact wpAny_pure hv
theorem end_of {c : Addr} {Q : Option Value → Shared → Prop} (h : wpAny (model prog w) A (callSpecial? (.ref c) "__next__") (fun _ _ => False) (fun e s1 => ∃ a o, e = .ref a ∧ s1.heap.get? a = some o ∧ o.cls = .type "StopIteration" ∧ Q none s1) s) : wpAny (model prog w) A (pyNext (.ref c)) Q E s := by
  unfold pyNext
  refine wpAny_bind (wpAny_attempt (wpAny_mono h (fun r s1 hr => hr.elim) fun e s1 he => ?_))
  obtain ⟨a, o, rfl, ho, hc, q⟩ := he
  exact wpAny_bind (wpAny_isInstance (T := "StopIteration") (b := true) ⟨o, ho, hc⟩ isSubtype_stop (wpAny_pure q))
end
end Cmb
namespace L2
open PySem PySem.Spec PyProof.Rows
/-- the pairs of places, k the first -/
def pairsN : Nat → Nat → List (Nat × Nat)
  | _, 0 => []
  | k, m + 1 => (List.range m).map (fun d => (k, k + 1 + d)) ++ pairsN (k + 1) m
theorem pairsN_mem : ∀ {m k : Nat} {q : Nat × Nat}, q ∈ pairsN k m → k ≤ q.1 ∧ q.1 < q.2 ∧ q.2 < k + m
  | 0, _, _, h => by cases h
  | m + 1, k, q, h => by
    rw [pairsN] at h
    rcases List.mem_append.mp h with h | h
    · obtain ⟨d, hd, rfl⟩ := List.mem_map.mp h
      have := List.mem_range.mp hd
      exact ⟨Nat.le_refl _, by show k < k + 1 + d; omega, by show k + 1 + d < k + (m + 1); omega⟩
    · have := pairsN_mem h
      omega
theorem pairsN_zero : ∀ {m k : Nat} {q : Nat × Nat}, (pairsN k m)[0]? = some q → q = (k, k + 1) ∧ 2 ≤ m
  | 0, _, _, h => by cases h
  | 1, k, q, h => by cases h
  | m + 2, k, q, h => by
    rw [pairsN, List.range_succ_eq_map] at h
    cases h
    exact ⟨rfl, by omega⟩
theorem pairsN_nx : ∀ {m k i : Nat} {p q : Nat × Nat}, (pairsN k m)[i]? = some p → (pairsN k m)[i + 1]? = some q → Cmb.nx (k + m) p = some q
  | 0, _, _, _, _, h, _ => by cases h
  | m + 1, k, i, p, q, h1, h2 => by
    rw [pairsN] at h1 h2
    by_cases e : i + 1 < m
    · rw [List.getElem?_append_left (by simp; omega), List.getElem?_map, List.getElem?_range (by omega)] at h1
      rw [List.getElem?_append_left (by simp; omega), List.getElem?_map, List.getElem?_range e] at h2
      cases h1; cases h2
      unfold Cmb.nx
      rw [if_pos (by show k + 1 + i + 1 < k + (m + 1); omega)]; rfl
    · rw [List.getElem?_append_right (by simp; omega), List.length_map, List.length_range] at h2
      by_cases e2 : i < m
      · rw [List.getElem?_append_left (by simp; omega), List.getElem?_map, List.getElem?_range e2] at h1
        cases h1
        have hi : i + 1 - m = 0 := by omega
        rw [hi] at h2
        obtain ⟨rfl, hm⟩ := pairsN_zero h2
        unfold Cmb.nx
        rw [if_neg (by show ¬ (k + 1 + i + 1 < k + (m + 1)); omega), if_pos (by show k + 2 < k + (m + 1); omega)]
      · rw [List.getElem?_append_right (by simp; omega), List.length_map, List.length_range] at h1
        have hi : i + 1 - m = (i - m) + 1 := by omega
        rw [hi] at h2
        have := pairsN_nx h1 h2
        rwa [show k + 1 + m = k + (m + 1) by omega] at this
theorem pairsN_last : ∀ {m k i : Nat} {p : Nat × Nat}, (pairsN k m)[i]? = some p → (pairsN k m).length ≤ i + 1 → Cmb.nx (k + m) p = none
  | 0, _, _, _, h, _ => by cases h
  | m + 1, k, i, p, h1, h2 => by
    rw [pairsN] at h1 h2
    rw [List.length_append, List.length_map, List.length_range] at h2
    by_cases e2 : i < m
    · rw [List.getElem?_append_left (by simp; omega), List.getElem?_map, List.getElem?_range e2] at h1
      cases h1
      have h0 : (pairsN (k + 1) m).length = 0 := by omega
      have hm : m ≤ 1 := by
        match m, h0 with
        | 0, _ => omega
        | 1, _ => omega
        | m + 2, h0 => rw [pairsN] at h0; simp at h0
      unfold Cmb.nx
      rw [if_neg (by show ¬ (k + 1 + i + 1 < k + (m + 1)); omega), if_neg (by show ¬ (k + 2 < k + (m + 1)); omega)]
    · rw [List.getElem?_append_right (by simp; omega), List.length_map, List.length_range] at h1
      have := pairsN_last h1 (by omega)
      rwa [show k + 1 + m = k + (m + 1) by omega] at this
theorem pairsN_nil {m : Nat} (h : (pairsN 0 m).length = 0) : m ≤ 1 := by
  match m, h with
  | 0, _ => omega
  | 1, _ => omega
  | m + 2, h => rw [pairsN] at h; simp at h
/-- pairs of the values xs, each a new tuple -/
def Itc2 (xs : List V) : It :=
  ⟨fun i _ => i < (pairsN 0 xs.length).length, fun i H v H' => ∃ T a b x y, v = .ref T ∧ H T = none ∧ (pairsN 0 xs.length)[i]? = some (a, b) ∧ xs[a]? = some x ∧ xs[b]? = some y ∧ H' = upd H T (.tup [x, y]), fun i _ => (pairsN 0 xs.length).length ≤ i⟩
def cmbSt (n i : Nat) (st : Int) (q : Nat × Nat) : Prop := (i = 0 ∧ q = (0, 1) ∧ st = if 2 > n then 2 else 0) ∨ ∃ j, i = j + 1 ∧ st = 1 ∧ (pairsN 0 n)[j]? = some q
theorem turn_cmb {P : Program} {w : World} {K : PySem.W.Frag} {tg : Expr} {xs : List V} {its : List Value} {c p : Addr} (rv : Vals xs its) (hpc : p ≠ c) :
    Turn P w K tg (Itc2 xs) [c, p] c (fun i h => ∃ st last q, h.get? c = some (Cmb.cmbObj p st last q.1 q.2) ∧ Cmb.IsTup h p its ∧ cmbSt xs.length i st q) where
  mem := by simp
  obj := fun i h st b hb => by
    obtain ⟨s, l, q, h1, h2, _⟩ := st
    rcases (by simpa using hb : b = c ∨ b = p) with e | e
    · rw [e]; exact ⟨_, h1, fun v z => nomatch z⟩
    · rw [e]; exact ⟨_, h2, fun v z => nomatch z⟩
  keep := fun i h h' st k => by
    obtain ⟨s, l, q, h1, h2, h3⟩ := st
    exact ⟨s, l, q, k c (by simp) _ h1, k p (by simp) _ h2, h3⟩
  self := fun A i s Q E st h => by
    obtain ⟨_, l, q, h1, _, _⟩ := st
    exact Cmb.iter_cmb h1 h
  done := by
    intro X hP hw hK hc i pins s σ H E I hf st hg
    subst hP hw hK
    obtain ⟨s1, l, q, h1, h2, h3⟩ := st
    obtain ⟨f0, f1, f2, f3, f4, f5⟩ := hf c (by simp)
    have hl := rv.length
    replace hg : (pairsN 0 xs.length).length ≤ i := hg
    have hab : q.1 < q.2 := by
      rcases h3 with ⟨_, e, _⟩ | ⟨j, _, _, e⟩
      · rw [e]; decide
      · exact (pairsN_mem (List.mem_of_getElem? e)).2.1
    refine Cmb.end_of (Cmb.cmb_end (I.ok.hd hc) h1 h2 hpc hab (fun e1 => ?_) ?_ fun e h' he hk => ?_)
    · rcases h3 with ⟨_, _, e⟩ | ⟨j, _, _, e⟩
      · rw [e] at e1; split at e1 <;> cases e1
      · have := (pairsN_mem (List.mem_of_getElem? e)).2.2
        rw [← hl]; omega
    · rcases h3 with ⟨e0, _, e⟩ | ⟨j, ej, es, e⟩
      · right
        rw [e0] at hg
        have := pairsN_nil (Nat.le_zero.mp hg)
        rw [e, if_pos (by omega)]
      · left
        refine ⟨es, ?_⟩
        rw [ej] at hg
        have := pairsN_last e hg
        rw [Nat.zero_add, hl] at this
        exact this
    · obtain ⟨o, ho, hc'⟩ := he
      exact ⟨e, o, rfl, ho, hc', rfl, I.turned (t' := s.toks) (fun b o' hb z => hk b o' hb z) f0 f1 f3 f4 f5⟩
  item := by
    intro X hP hw hK hc i pins s σ H E I hf st hg
    subst hP hw hK
    obtain ⟨s1, l, q, h1, h2, h3⟩ := st
    have hl := rv.length
    replace hg : i < (pairsN 0 xs.length).length := hg
    obtain ⟨⟨a, b⟩, hq⟩ : ∃ q, (pairsN 0 xs.length)[i]? = some q := ⟨_, List.getElem?_eq_getElem hg⟩
    obtain ⟨_, m2, m3⟩ := pairsN_mem (List.mem_of_getElem? hq)
    rw [Nat.zero_add] at m3
    obtain ⟨x, hx⟩ : ∃ x, xs[a]? = some x := ⟨_, List.getElem?_eq_getElem (by show a < xs.length; omega)⟩
    obtain ⟨y, hy⟩ : ∃ y, xs[b]? = some y := ⟨_, List.getElem?_eq_getElem m3⟩
    obtain ⟨u, hu, ru⟩ := rv.get hx
    obtain ⟨u2, hu2, ru2⟩ := rv.get hy
    have fin : ∀ h' T, h'.get? c = some (Cmb.cmbObj p 1 (.ref T) a b) → h'.get? T = some { cls := .type "tuple", data := .seq #[u, u2] } → s.heap.objs.size ≤ T → (∀ b o', b ≠ c → s.heap.get? b = some o' → h'.get? b = some o') →
        ∃ v, (some (Value.ref T) : Option Value) = some v ∧ (fun (r : Option Value) s1 => ∃ u, r = some u ∧ wpAny (model X.prog X.w) X.A (letOwnedTupleGo tg (.ref c) u) (fun _ s2 => ∃ x H', Inv X pins σ H' s2 ∧ RelV x u ∧ (Itc2 xs).yld i H x H' ∧ (∃ st last q, s2.heap.get? c = some (Cmb.cmbObj p st last q.1 q.2) ∧ Cmb.IsTup s2.heap p its ∧ cmbSt xs.length (i + 1) st q) ∧ ∀ b ∈ [c, p], H' b = none) E s1) (some v) { s with heap := h' } := by
      intro h' T g1 g2 g3 g4
      refine ⟨_, rfl, _, rfl, go_of (s := { s with heap := h' }) g1 rfl rfl (by decide) ?_⟩
      have new : ObjOk X.prog X.w (upd H T (.tup [x, y])) h' T (.tup [x, y]) := ⟨by show 2 ≤ sizeLine; decide, [u, u2], .cons ru (.cons ru2 .nil), ⟨_, g2, rfl, _, rfl⟩⟩
      have I1 : Inv X pins σ (upd H T (.tup [x, y])) { s with heap := h' } := I.turnedNew (t' := s.toks) (ch := [c, p]) (fun b o hb z => g4 b o (fun e => hb (by simp [e])) z) hf g3 new
      have tp : Cmb.IsTup h' p its := g4 p _ hpc h2
      refine ⟨.ref T, _, I1, rfl, ⟨T, a, b, x, y, rfl, I.hok.fresh g3, hq, hx, hy, rfl⟩, ⟨1, _, (a, b), g1, tp, .inr ⟨i, rfl, rfl, hq⟩⟩, fun d hd => ?_⟩
      have hlt : d < s.heap.objs.size := by
        rcases (by simpa using hd : d = c ∨ d = p) with e | e
        · rw [e]; exact Heap.lt_size h1
        · rw [e]; exact Heap.lt_size h2
      rw [upd_ne (Nat.ne_of_lt (Nat.lt_of_lt_of_le hlt g3))]
      exact (hf d hd).1
    refine Cmb.next_of ?_
    rcases h3 with ⟨e0, eq, es⟩ | ⟨j, ej, es, ej2⟩
    · rw [e0] at hq
      obtain ⟨e1, hm⟩ := pairsN_zero hq
      cases e1
      rw [if_neg (by omega)] at es
      subst es
      rw [eq] at h1
      exact Cmb.cmb_first h1 h2 hpc hu hu2 fin
    · subst es
      have hn := pairsN_nx ej2 (by rw [← ej]; exact hq)
      rw [Nat.zero_add, hl] at hn
      obtain ⟨_, n2, n3⟩ := pairsN_mem (List.mem_of_getElem? ej2)
      exact Cmb.cmb_item h1 h2 hpc n2 (by rw [← hl]; omega) hn hu hu2 fin
def iCmb (K : PySem.W.Frag) (ta : TA) : TI := fun σ H R => ta σ H fun vs H1 => ∃ a xs, vs = [.ref a, .int 2] ∧ SqL K H1 a xs ∧ R (Itc2 xs) H1
theorem pi_cmb {X : Cx} {e e2 : Expr} {ta : TA} {p pos : Pos} {tg : Expr} {n : Str} (hg : Gl X n) (hm : X.mg n = some (.type "itertools.combinations")) (ha : PA X [e, e2] ta)
    (hs : starEach [e, e2] X.env = (false, eval e X.env) :: starEach [e2] X.env := by rfl) (hpl : (backTo pos (starEach [e2] X.env)).any (·.1) = false := by rfl) (hd : (n == ("__debug__" : Str)) = false := by decide) :
    PI X tg (.Call (.Name n p) [e, e2] [] pos) (iCmb X.K ta) := by
  refine ⟨fun pins s σ H R I h => ?_⟩
  refine Call_ (ld_glob I hg hm (PyProof.Rows.callWith_type1 (thn (ha.run pos pins s σ H _ I h) fun us s1 ⟨vs, H1, I1, r1, q1⟩ => ?_) hs hpl) hd)
  obtain ⟨a, xs, ex, hq, q⟩ := q1
  subst ex
  cases r1 with
  | cons r rr =>
    cases rr with
    | cons r' rr =>
      cases rr
      cases r
      obtain ⟨t, rfl⟩ := r'
      obtain ⟨its, rv, p1, hz⟩ := I1.list hq
      obtain ⟨o, ho, hc, n0, hd0⟩ := p1.isList
      refine Cmb.call_cmb ho hc hd0 (by rw [List.size_toArray, ← rv.length]; exact hz) fun h' p c t1 g1 hpc sp sc hk => Cmb.iter_cmb g1 ?_
      have I2 : Inv X pins σ H1 { s1 with heap := h' } := I1.kept (t' := s1.toks) hk
      have hl := rv.length
      refine ⟨c, [c, p], _, _, H1, rfl, I2, turn_cmb rv hpc, ⟨_, _, (0, 1), g1, t1, .inl ⟨rfl, rfl, ?_⟩⟩, fun b hb => ?_, q⟩
      · rw [hl]; simp
      · rcases (by simpa using hb : b = c ∨ b = p) with e | e
        · rw [e]; exact I1.fpOk sc (I1.hok.fresh sc)
        · rw [e]; exact I1.fpOk sp (I1.hok.fresh sp)
end L2
namespace M
open PySem PySem.Spec PyProof.Rows L2
open Evl (Ex ex_rd ex_l ex_t rMax2)
open G (dpx dpax dpa_len dpa_get dpa_app dpa_set ex_none ti li)
/-! ### combinations(xs, 2) -/
noncomputable def mCmb (ma : MA) : MI := fun env h => (ma env h).bind fun r => (argsTT r.1).bind fun p => if isT p.1 = false ∧ asI p.2 = some 2 then (itemsOf r.2 p.1).map fun xs => (([], (pairsN 0 xs.length).map fun q => pairM (xs.getD q.1 (.d .none)) (xs.getD q.2 (.d .none))), r.2) else none
theorem si_cmb {K : PySem.W.Frag} {ta : TA} {ma : MA} (h : SimA K ta ma) : SimI K (iCmb K ta) (mCmb ma) := fun w h0 σ env si h' rl re e R q => by
  obtain ⟨⟨xs, h1⟩, e1, e⟩ := bind_of e
  obtain ⟨⟨x, y⟩, e2, e⟩ := bind_of e
  simp only at e
  split at e
  · rename_i ht
    obtain ⟨ys, e3, e⟩ := map_of e
    cases e
    refine h w h0 σ env xs _ rl re e1 _ fun w1 us st1 r1 x1 => ?_
    replace e2 : argsTT xs = some (x, y) := e2
    rw [argsTT_of e2] at x1
    replace x1 : RepA K w1.ι w1.C us [x, y] := x1
    obtain ⟨u, v, rfl, hx, hy⟩ := x1.two
    have hv := asI_rep hy ht.2
    subst hv
    obtain ⟨a, vs, rfl, hq, ra⟩ := items_L r1 hx e3 ht.1
    refine ⟨a, vs, rfl, hq, q w1 _ st1 r1 fun w2 h2 st2 r2 _ => ?_⟩
    have hl := ra.len
    have ra2 := ra.up st2
    refine ⟨?_, fun i z ez => ?_⟩
    · show (pairsN 0 vs.length).length ≤ ((pairsN 0 ys.length).map _).length
      rw [List.length_map, hl]; exact Nat.le_refl _
    · rw [List.getElem?_map] at ez
      obtain ⟨⟨a1, b1⟩, f1, rfl⟩ := Option.map_eq_some_iff.mp ez
      refine ⟨by show i < (pairsN 0 vs.length).length; rw [hl]; exact (List.getElem?_eq_some_iff.mp f1).1, fun u H' yy => ?_⟩
      obtain ⟨T, a, b, x, y, rfl, hT, g1, g2, g3, rfl⟩ := yy
      rw [hl, f1] at g1
      cases g1
      obtain ⟨_, _, m3⟩ := pairsN_mem (List.mem_of_getElem? f1)
      obtain ⟨_, m2, _⟩ := pairsN_mem (List.mem_of_getElem? f1)
      have n1 : ys[a1]? = some (ys.getD a1 (.d .none)) := by rw [List.getD_eq_getElem?_getD, List.getElem?_eq_getElem (by show a1 < ys.length; omega)]; rfl
      have n2 : ys[b1]? = some (ys.getD b1 (.d .none)) := by rw [List.getD_eq_getElem?_getD, List.getElem?_eq_getElem (by show b1 < ys.length; omega)]; rfl
      obtain ⟨x', gx, rx⟩ := ra2.get n1
      obtain ⟨y', gy, ry⟩ := ra2.get n2
      rw [g2] at gx; cases gx
      rw [g3] at gy; cases gy
      exact pair_know r2 rx ry hT
  · cases e
end M
namespace M
open PySem PySem.Spec PyProof.Rows L2
open Evl (Ex ex_rd ex_l ex_t rMax2)
open G (dpx dpax dpa_len dpa_get dpa_app dpa_set ex_none ti li)
/-! ### tuple + tuple, data -/
def mCatT : MO2 := fun a b h => match a, b with
  | .d (.tuple xs), .d (.tuple ys) => if xs.length + ys.length ≤ 100000 then some (.d (.tuple (xs ++ ys)), h) else none
  | _, _ => none
theorem sr_catT {K : PySem.W.Frag} : SimR K (rCatA K) mCatT := fun w h x y a b v h' rl rx ry e Q q => by
  unfold mCatT at e
  split at e
  · rename_i xs ys
    split at e
    · rename_i hz
      cases e
      cases rx with
      | d rx =>
        cases ry with
        | d ry =>
          cases rx with
          | @tup a1 us _ hx ax =>
            cases ry with
            | @tup a2 vs _ hy ay =>
              have lx := dpa_len ax
              have ly := dpa_len ay
              refine ⟨_, _, _, _, rfl, rfl, ex_t rl.ch hx, ex_t rl.ch hy, by rw [lx, ly]; exact Nat.le_trans hz sl_100000, fun e0 => ?_, fun _ e0 => ?_, fun _ _ p hp => ?_⟩
              · have : xs = [] := List.length_eq_zero_iff.mp (by rw [← lx, e0]; rfl)
                subst this
                exact q w _ (.refl _) rl (.d (.tup hy ay))
              · have : ys = [] := List.length_eq_zero_iff.mp (by rw [← ly, e0]; rfl)
                subst this
                rw [List.append_nil] at q
                exact q w _ (.refl _) rl (.d (.tup hx ax))
              · obtain ⟨s2, r2⟩ := know_ok (o := .tup (us ++ vs)) rl hp
                exact q (w.know p _) _ s2 r2 (.d (.tup (.inl (.inl upd_same)) (dpa_app (dpax s2.ex ax) (dpax s2.ex ay))))
    · cases e
  · cases e
/-! ### in a list or in a tuple -/
def rInX (K : PySem.W.Frag) (neg : Bool) : R2 := fun x y H Q => ∃ d ds, Dp K H x d ∧ (Dp K H y (.list ds) ∨ Dp K H y (.tuple ds)) ∧ SeqAt.shaped d = true ∧ SeqAt.shaped (.list ds) = true ∧ SeqAt.shaped (.tuple ds) = true ∧ Q (.bl (if neg = true then !(ds.any fun z => PyData.eqv z d) else ds.any fun z => PyData.eqv z d)) H
theorem op_inX {X : Cx} (hu : X.A.units + 65 < cLine) : OpR X (compareOp .In) (rInX X.K false) := fun pins s σ H x y v u Q I rx ry ⟨d, ds, hd, he, sd, se, st, q⟩ => he.elim (fun he => op_inD hu pins s σ H x y v u Q I rx ry ⟨d, ds, hd, he, sd, se, q⟩) fun he =>
  (Dp.reads I d x v hd rx).elim fun as r1 => (Dp.reads I (.tuple ds) y u he ry).elim fun bs r2 => SeqAt.in_tuple_reads r2 r1 (SeqAt.canLay_of_shaped st) (SeqAt.canLay_of_shaped sd) (room_in_shaped sd hu) ⟨.bl _, H, I, rfl, q⟩
theorem op_notInX {X : Cx} (hu : X.A.units + 65 < cLine) : OpR X (compareOp .NotIn) (rInX X.K true) := fun pins s σ H x y v u Q I rx ry ⟨d, ds, hd, he, sd, se, st, q⟩ => he.elim (fun he => op_notInD hu pins s σ H x y v u Q I rx ry ⟨d, ds, hd, he, sd, se, q⟩) fun he =>
  (Dp.reads I d x v hd rx).elim fun as r1 => (Dp.reads I (.tuple ds) y u he ry).elim fun bs r2 => SeqAt.notIn_tuple_reads r2 r1 (SeqAt.canLay_of_shaped st) (SeqAt.canLay_of_shaped sd) (room_in_shaped sd hu) ⟨.bl _, H, I, rfl, q⟩
def asDX (d : PyData) : Option (List PyData) := match d with
  | .list ds => some ds
  | .tuple ds => some ds
  | _ => none
def mInX (neg : Bool) : MO2 := fun a b h => (reify 6 h a).bind fun d => (reify 6 h b).bind fun e => (asDX e).bind fun ds => if SeqAt.shaped d = true ∧ SeqAt.shaped (.list ds) = true ∧ SeqAt.shaped (.tuple ds) = true then some (.d (.bool (if neg = true then !(ds.any fun z => PyData.eqv z d) else ds.any fun z => PyData.eqv z d)), h) else none
theorem asDX_of {d : PyData} {ds : List PyData} (e : asDX d = some ds) : d = .list ds ∨ d = .tuple ds := by
  unfold asDX at e
  split at e
  · cases e; exact .inl rfl
  · cases e; exact .inr rfl
  · cases e
theorem sr_inX {K : PySem.W.Frag} {neg : Bool} : SimR K (rInX K neg) (mInX neg) := fun w h x y a b v h' rl rx ry e Q q => by
  obtain ⟨d, e1, e⟩ := bind_of e
  obtain ⟨e', e2, e⟩ := bind_of e
  obtain ⟨ds, e3, e⟩ := bind_of e
  split at e
  · rename_i hs
    cases e
    have d1 := dpx vis_ex (reify_ok rl 6 rx e1)
    have d2 := dpx vis_ex (reify_ok rl 6 ry e2)
    refine ⟨d, ds, d1, ?_, hs.1, hs.2.1, hs.2.2, q w _ (.refl _) rl (.d (.bl _))⟩
    rcases asDX_of e3 with z | z <;> rw [z] at d2
    · exact .inl d2
    · exact .inr d2
  · cases e
theorem e_inX {α : Type} [DecidableEq α] {f : α → PyData} {n : Nat} (E : Enc f n) {neg : Bool} {a : α} {bs : List α} {h : MH} {x y : MV} (hx : reify 6 h x = some (f a)) (hy : reify 6 h y = some (.list (bs.map f)) ∨ reify 6 h y = some (.tuple (bs.map f))) (hn : n ≤ 63 := by decide) : mInX neg x y h = some (.d (.bool (if neg = true then !decide (a ∈ bs) else decide (a ∈ bs))), h) := by
  have s1 := E.sh a (by omega)
  have s2 : SeqAt.shaped (.list (bs.map f)) = true := E.list.sh bs (by omega)
  have s3 : SeqAt.shaped (.tuple (bs.map f)) = true := E.tup.sh bs (by omega)
  unfold mInX
  rcases hy with hy | hy
  · rw [hx, hy, Option.bind_some, Option.bind_some, show asDX (.list (bs.map f)) = some (bs.map f) from rfl, Option.bind_some, if_pos ⟨s1, s2, s3⟩, E.any a bs]
  · rw [hx, hy, Option.bind_some, Option.bind_some, show asDX (.tuple (bs.map f)) = some (bs.map f) from rfl, Option.bind_some, if_pos ⟨s1, s2, s3⟩, E.any a bs]
end M
namespace M
open PySem PySem.Spec PyProof.Rows L2
open Evl (Ex ex_rd ex_l ex_t rMax2)
open G (rMin2 rInt1 rAbs rTupOf rListOf cr_len cr_max2 cr_min2 cr_int1 cr_abs cr_tup cr_list op_repA op_mulA op_catS pi_enumA pe_soSet ti li)
/-! ### the text -/
def topS (i : Nat) : Stmt := PySem.Challenge.pw_commonage_k11_papers_that_are_right.main.body.getD i (.Pass ⟨0, 0, 0, 0⟩)
abbrev s_covers : Stmt := topS 2
abbrev N_covers : List Str := ["clock", "machine", "number"]
theorem sc_covers : FnScope N_covers ["clock", "machine", "number"] (defScope s_covers) := ⟨rfl, rfl, rfl, by decide +kernel, rfl, by decide +kernel, by decide +kernel⟩
abbrev s_each_once : Stmt := topS 3
abbrev N_each_once : List Str := ["words"]
theorem sc_each_once : FnScope N_each_once ["words"] (defScope s_each_once) := ⟨rfl, rfl, rfl, by decide +kernel, rfl, by decide +kernel, by decide +kernel⟩
abbrev s_make_record : Stmt := topS 4
abbrev N_make_record : List Str := ["machine", "number", "clock", "loads", "stores"]
theorem sc_make_record : FnScope N_make_record ["machine", "number", "clock", "loads", "stores"] (defScope s_make_record) := ⟨rfl, rfl, rfl, by decide +kernel, rfl, by decide +kernel, by decide +kernel⟩
abbrev s_is_same : Stmt := topS 5
abbrev N_is_same : List Str := ["one", "other"]
theorem sc_is_same : FnScope N_is_same ["one", "other"] (defScope s_is_same) := ⟨rfl, rfl, rfl, by decide +kernel, rfl, by decide +kernel, by decide +kernel⟩
abbrev s_is_covered : Stmt := topS 6
abbrev N_is_covered : List Str := ["record", "clock"]
theorem sc_is_covered : FnScope N_is_covered ["record", "clock"] (defScope s_is_covered) := ⟨rfl, rfl, rfl, by decide +kernel, rfl, by decide +kernel, by decide +kernel⟩
abbrev s_is_before : Stmt := topS 7
abbrev N_is_before : List Str := ["one", "other"]
theorem sc_is_before : FnScope N_is_before ["one", "other"] (defScope s_is_before) := ⟨rfl, rfl, rfl, by decide +kernel, rfl, by decide +kernel, by decide +kernel⟩
abbrev s_are_unordered : Stmt := topS 8
abbrev N_are_unordered : List Str := ["one", "other"]
theorem sc_are_unordered : FnScope N_are_unordered ["one", "other"] (defScope s_are_unordered) := ⟨rfl, rfl, rfl, by decide +kernel, rfl, by decide +kernel, by decide +kernel⟩
abbrev s_ascending : Stmt := topS 9
abbrev N_ascending : List Str := ["records"]
theorem sc_ascending : FnScope N_ascending ["records"] (defScope s_ascending) := ⟨rfl, rfl, rfl, by decide +kernel, rfl, by decide +kernel, by decide +kernel⟩
abbrev s_is_whole : Stmt := topS 11
abbrev N_is_whole : List Str := ["value"]
theorem sc_is_whole : FnScope N_is_whole ["value"] (defScope s_is_whole) := ⟨rfl, rfl, rfl, by decide +kernel, rfl, by decide +kernel, by decide +kernel⟩
abbrev s_kind_of : Stmt := topS 13
abbrev N_kind_of : List Str := ["record", "word"]
theorem sc_kind_of : FnScope N_kind_of ["record", "word"] (defScope s_kind_of) := ⟨rfl, rfl, rfl, by decide +kernel, rfl, by decide +kernel, by decide +kernel⟩
abbrev s_sides_of : Stmt := topS 14
abbrev N_sides_of : List Str := ["records", "found", "record", "machine", "number", "clock", "loads", "stores", "word"]
theorem sc_sides_of : FnScope N_sides_of ["records"] (defScope s_sides_of) := ⟨rfl, rfl, rfl, by decide +kernel, rfl, by decide +kernel, by decide +kernel⟩
abbrev s_do_race : Stmt := topS 15
abbrev N_do_race : List Str := ["one", "other"]
theorem sc_do_race : FnScope N_do_race ["one", "other"] (defScope s_do_race) := ⟨rfl, rfl, rfl, by decide +kernel, rfl, by decide +kernel, by decide +kernel⟩
abbrev s_papers_of : Stmt := topS 16
abbrev N_papers_of : List Str := ["word", "sides", "one", "other"]
theorem sc_papers_of : FnScope N_papers_of ["word", "sides"] (defScope s_papers_of) := ⟨rfl, rfl, rfl, by decide +kernel, rfl, by decide +kernel, by decide +kernel⟩
abbrev s_report : Stmt := topS 17
abbrev N_report : List Str := ["records", "sides", "papers", "word"]
theorem sc_report : FnScope N_report ["records"] (defScope s_report) := ⟨rfl, rfl, rfl, by decide +kernel, rfl, by decide +kernel, by decide +kernel⟩
abbrev s_is_clock : Stmt := topS 18
abbrev N_is_clock : List Str := ["value", "count"]
theorem sc_is_clock : FnScope N_is_clock ["value"] (defScope s_is_clock) := ⟨rfl, rfl, rfl, by decide +kernel, rfl, by decide +kernel, by decide +kernel⟩
abbrev s_is_side : Stmt := topS 19
abbrev N_is_side : List Str := ["value", "machine", "number", "clock", "kind"]
theorem sc_is_side : FnScope N_is_side ["value"] (defScope s_is_side) := ⟨rfl, rfl, rfl, by decide +kernel, rfl, by decide +kernel, by decide +kernel⟩
abbrev s_is_paper : Stmt := topS 20
abbrev N_is_paper : List Str := ["value", "word", "one", "other"]
theorem sc_is_paper : FnScope N_is_paper ["value"] (defScope s_is_paper) := ⟨rfl, rfl, rfl, by decide +kernel, rfl, by decide +kernel, by decide +kernel⟩
abbrev s_is_told : Stmt := topS 21
abbrev N_is_told : List Str := ["side", "word", "records", "record"]
theorem sc_is_told : FnScope N_is_told ["side", "word", "records"] (defScope s_is_told) := ⟨rfl, rfl, rfl, by decide +kernel, rfl, by decide +kernel, by decide +kernel⟩
abbrev s_is_right : Stmt := topS 22
abbrev N_is_right : List Str := ["paper", "records", "word", "one", "other"]
theorem sc_is_right : FnScope N_is_right ["paper", "records"] (defScope s_is_right) := ⟨rfl, rfl, rfl, by decide +kernel, rfl, by decide +kernel, by decide +kernel⟩
abbrev s__law_cell : Stmt := topS 24
abbrev N__law_cell : List Str := ["script", "k"]
theorem sc__law_cell : FnScope N__law_cell ["script", "k"] (defScope s__law_cell) := ⟨rfl, rfl, rfl, by decide +kernel, rfl, by decide +kernel, by decide +kernel⟩
abbrev s__law_digits : Stmt := topS 25
abbrev N__law_digits : List Str := ["cell", "bases", "digits", "rest", "base", "mixed"]
theorem sc__law_digits : FnScope N__law_digits ["cell", "bases"] (defScope s__law_digits) := ⟨rfl, rfl, rfl, by decide +kernel, rfl, by decide +kernel, by decide +kernel⟩
abbrev s__law_many : Stmt := topS 26
abbrev N__law_many : List Str := ["script", "few", "many"]
theorem sc__law_many : FnScope N__law_many ["script", "few", "many"] (defScope s__law_many) := ⟨rfl, rfl, rfl, by decide +kernel, rfl, by decide +kernel, by decide +kernel⟩
abbrev s__law_run : Stmt := topS 28
abbrev N__law_run : List Str := ["cells", "machines", "rows", "clocks", "q", "p", "k", "digits", "touched", "loads", "stores", "own", "seen", "w", "row", "m"]
theorem sc__law_run : FnScope N__law_run ["cells", "machines"] (defScope s__law_run) := ⟨rfl, rfl, rfl, by decide +kernel, rfl, by decide +kernel, by decide +kernel⟩
abbrev s__law_changed : Stmt := topS 29
abbrev N__law_changed : List Str := ["paper", "cell", "digits", "word", "one", "other", "sides", "side", "count"]
theorem sc__law_changed : FnScope N__law_changed ["paper", "cell"] (defScope s__law_changed) := ⟨rfl, rfl, rfl, by decide +kernel, rfl, by decide +kernel, by decide +kernel⟩
abbrev s__law_side : Stmt := topS 30
abbrev N__law_side : List Str := ["record", "word", "kind"]
theorem sc__law_side : FnScope N__law_side ["record", "word"] (defScope s__law_side) := ⟨rfl, rfl, rfl, by decide +kernel, rfl, by decide +kernel, by decide +kernel⟩
abbrev s_law : Stmt := topS 31
abbrev N_law : List Str := ["script", "machines", "cells", "k", "records", "papers", "changed", "told", "digits", "one", "other", "paper", "value", "row"]
theorem sc_law : FnScope N_law ["script"] (defScope s_law) := ⟨rfl, rfl, rfl, by decide +kernel, rfl, by decide +kernel, by decide +kernel⟩
noncomputable def ml_covers_1 : MS :=
(mRet (mOp (mIB fun i j => decide (j ≤ i)) (mOp mIx (mVar 0) (mVar 1)) (mVar 2)))
noncomputable def m_covers : MS :=
ml_covers_1
noncomputable def pf_covers : List PyData → Option PyData := toPure 3 3 m_covers
noncomputable def tr_covers (K : PySem.W.Frag) : TS :=
(tRet (tOp (rI0 fun i j => .bl (decide (j ≤ i))) (tOp (rIx K) (tVar 0) (tVar 1)) (tVar 2)))
theorem sim_covers (K : PySem.W.Frag) : SimS K (tr_covers K) m_covers :=
(ss_ret (sm_op (sm_op sm_var sm_var sr_ix) sm_var sr_bl))
noncomputable def ml_each_once_1 : MS :=
(mRet (mCB mTupOf (mCons (mDat (mSoSetX (mCons (mVar 0) mNil))) mNil)))
noncomputable def m_each_once : MS :=
ml_each_once_1
noncomputable def pf_each_once : List PyData → Option PyData := toPure 1 1 m_each_once
noncomputable def tr_each_once (K : PySem.W.Frag) : TS :=
(tRet (tCB (rTupOf K) (tCons (tSoSetX K (tCons (tVar 0) tNil)) tNil)))
theorem sim_each_once (K : PySem.W.Frag) : SimS K (tr_each_once K) m_each_once :=
(ss_ret (sm_cb (sm_cons (sm_dat (sm_soSetX (sm_cons sm_var sm_nil))) sm_nil) sc_tup))
noncomputable def ml_make_record_1 : MS :=
(mRet (mTup (mCons (mVar 0) (mCons (mVar 1) (mCons (mVar 2) (mCons (mCB (liftD pf_each_once) (mCons (mVar 3) mNil)) (mCons (mCB (liftD pf_each_once) (mCons (mVar 4) mNil)) mNil)))))))
noncomputable def m_make_record : MS :=
ml_make_record_1
noncomputable def pf_make_record : List PyData → Option PyData := toPure 5 5 m_make_record
noncomputable def tr_make_record (K : PySem.W.Frag) : TS :=
(tRet (tTup (tCons (tVar 0) (tCons (tVar 1) (tCons (tVar 2) (tCons (tCall (spQ K pf_each_once) [] E0 (tCons (tVar 3) tNil)) (tCons (tCall (spQ K pf_each_once) [] E0 (tCons (tVar 4) tNil)) tNil)))))))
theorem sim_make_record (K : PySem.W.Frag) : SimS K (tr_make_record K) m_make_record :=
(ss_ret (sm_tup (sm_cons sm_var (sm_cons sm_var (sm_cons sm_var (sm_cons (sm_callQ (sm_cons sm_var sm_nil)) (sm_cons (sm_callQ (sm_cons sm_var sm_nil)) sm_nil)))))))
noncomputable def ml_is_same_1 : MS :=
(mRet (mAndV (mOp (mEqD false) (mOp mIx (mVar 0) (mK (.int 0))) (mOp mIx (mVar 1) (mK (.int 0)))) (mOp (mEqD false) (mOp mIx (mVar 0) (mK (.int 1))) (mOp mIx (mVar 1) (mK (.int 1))))))
noncomputable def m_is_same : MS :=
ml_is_same_1
noncomputable def pf_is_same : List PyData → Option PyData := toPure 2 2 m_is_same
noncomputable def tr_is_same (K : PySem.W.Frag) : TS :=
(tRet (tAndV (tOp (rEqD K) (tOp (rIx K) (tVar 0) (tC (.int 0))) (tOp (rIx K) (tVar 1) (tC (.int 0)))) (tOp (rEqD K) (tOp (rIx K) (tVar 0) (tC (.int 1))) (tOp (rIx K) (tVar 1) (tC (.int 1))))))
theorem sim_is_same (K : PySem.W.Frag) : SimS K (tr_is_same K) m_is_same :=
(ss_ret (sm_andV (sm_op (sm_op sm_var sm_int sr_ix) (sm_op sm_var sm_int sr_ix) sr_eq) (sm_op (sm_op sm_var sm_int sr_ix) (sm_op sm_var sm_int sr_ix) sr_eq)))
noncomputable def ml_is_covered_1 : MS :=
(mRet (mCB (liftD pf_covers) (mCons (mVar 1) (mCons (mOp mIx (mVar 0) (mK (.int 0))) (mCons (mOp mIx (mVar 0) (mK (.int 1))) mNil)))))
noncomputable def m_is_covered : MS :=
ml_is_covered_1
noncomputable def pf_is_covered : List PyData → Option PyData := toPure 2 2 m_is_covered
noncomputable def tr_is_covered (K : PySem.W.Frag) : TS :=
(tRet (tCall (spQ K pf_covers) [] E0 (tCons (tVar 1) (tCons (tOp (rIx K) (tVar 0) (tC (.int 0))) (tCons (tOp (rIx K) (tVar 0) (tC (.int 1))) tNil)))))
theorem sim_is_covered (K : PySem.W.Frag) : SimS K (tr_is_covered K) m_is_covered :=
(ss_ret (sm_callQ (sm_cons sm_var (sm_cons (sm_op sm_var sm_int sr_ix) (sm_cons (sm_op sm_var sm_int sr_ix) sm_nil)))))
noncomputable def ml_is_before_1 : MS :=
(mRet (mAndV (mCB (liftD pf_is_covered) (mCons (mVar 0) (mCons (mOp mIx (mVar 1) (mK (.int 2))) mNil))) (mNotV (mCB (liftD pf_is_same) (mCons (mVar 0) (mCons (mVar 1) mNil))))))
noncomputable def m_is_before : MS :=
ml_is_before_1
noncomputable def pf_is_before : List PyData → Option PyData := toPure 2 2 m_is_before
noncomputable def tr_is_before (K : PySem.W.Frag) : TS :=
(tRet (tAndV (tCall (spQ K pf_is_covered) [] E0 (tCons (tVar 0) (tCons (tOp (rIx K) (tVar 1) (tC (.int 2))) tNil))) (tNotV (tCall (spQ K pf_is_same) [] E0 (tCons (tVar 0) (tCons (tVar 1) tNil))))))
theorem sim_is_before (K : PySem.W.Frag) : SimS K (tr_is_before K) m_is_before :=
(ss_ret (sm_andV (sm_callQ (sm_cons sm_var (sm_cons (sm_op sm_var sm_int sr_ix) sm_nil))) (sm_notV (sm_callQ (sm_cons sm_var (sm_cons sm_var sm_nil))))))
noncomputable def ml_are_unordered_3 : MS :=
(mRet (mAndV (mNotV (mCB (liftD pf_is_before) (mCons (mVar 0) (mCons (mVar 1) mNil)))) (mNotV (mCB (liftD pf_is_before) (mCons (mVar 1) (mCons (mVar 0) mNil))))))
noncomputable def mc_are_unordered_1 : MT :=
(mTest (mOp (mEqD false) (mOp mIx (mVar 0) (mK (.int 0))) (mOp mIx (mVar 1) (mK (.int 0)))))
noncomputable def ml_are_unordered_2 : MS :=
(mRet (mK (.bool false)))
noncomputable def ml_are_unordered_1 : MS :=
(mIfS mc_are_unordered_1
ml_are_unordered_2
mNext)
noncomputable def m_are_unordered : MS :=
(mSeq ml_are_unordered_1
ml_are_unordered_3)
noncomputable def pf_are_unordered : List PyData → Option PyData := toPure 2 2 m_are_unordered
noncomputable def tr_are_unordered (K : PySem.W.Frag) : TS :=
(tSeq (tIfS (tTest (tOp (rEqD K) (tOp (rIx K) (tVar 0) (tC (.int 0))) (tOp (rIx K) (tVar 1) (tC (.int 0)))))
(tRet (tC (.bl false)))
tNext)
(tRet (tAndV (tNotV (tCall (spQ K pf_is_before) [] E0 (tCons (tVar 0) (tCons (tVar 1) tNil)))) (tNotV (tCall (spQ K pf_is_before) [] E0 (tCons (tVar 1) (tCons (tVar 0) tNil)))))))
theorem sim_are_unordered (K : PySem.W.Frag) : SimS K (tr_are_unordered K) m_are_unordered :=
(ss_seq (ss_if (sm_test (sm_op (sm_op sm_var sm_int sr_ix) (sm_op sm_var sm_int sr_ix) sr_eq))
(ss_ret sm_bl)
ss_next)
(ss_ret (sm_andV (sm_notV (sm_callQ (sm_cons sm_var (sm_cons sm_var sm_nil)))) (sm_notV (sm_callQ (sm_cons sm_var (sm_cons sm_var sm_nil)))))))
def lam_ascending : Expr := match (defBody s_ascending).getD 0 (.Pass ⟨0, 0, 0, 0⟩) with
  | .Return (some (.Call _ _ (k :: _) _)) _ => k.value
  | .Assign _ (.Call _ _ (k :: _) _) _ => k.value
  | _ => .Name "x" ⟨0, 0, 0, 0⟩
def gl_ascending : PyData → Option PyData := (fun d => ((fun d => ((fIx some 0) d).bind fun a => ((fun d => ((fIx some 1) d).bind fun a => ((fun _ => some []) d).map fun r => a :: r) d).map fun r => a :: r) d).map PyData.tuple)
noncomputable def ml_ascending_1 (TP0 : Addr) : MS :=
(mRet (mDat (mSortLam 0 TP0 (qlam "ascending") gl_ascending (mVar 0))))
noncomputable def m_ascending (TP0 : Addr) : MS :=
(ml_ascending_1 TP0)
noncomputable def fn_ascending (TP0 : Addr) : MCa := toHeap 1 1 (m_ascending TP0)
noncomputable def tr_ascending (K : PySem.W.Frag) (TP0 : Addr) : TS :=
(tRet (tSortLam K TP0 (qlam "ascending") lam_ascending gl_ascending (tVar 0)))
theorem sim_ascending (K : PySem.W.Frag) (TP0 : Addr) : SimS K (tr_ascending K TP0) (m_ascending TP0) :=
(ss_ret (sm_dat (sm_sortLam sm_var)))
noncomputable def ml_is_whole_1 : MS :=
(mRet (mAndV (mIsi "int" (mVar 0)) (mNotV (mIsi "bool" (mVar 0)))))
noncomputable def m_is_whole : MS :=
ml_is_whole_1
noncomputable def pf_is_whole : List PyData → Option PyData := toPure 1 1 m_is_whole
noncomputable def tr_is_whole (K : PySem.W.Frag) : TS :=
(tRet (tAndV (G.tIsi K (tVar 0) "int") (tNotV (G.tIsi K (tVar 0) "bool"))))
theorem sim_is_whole (K : PySem.W.Frag) : SimS K (tr_is_whole K) m_is_whole :=
(ss_ret (sm_andV (sm_isi sm_var) (sm_notV (sm_isi sm_var))))
noncomputable def ml_kind_of_5 : MS :=
(mRet (mK .none))
noncomputable def mc_kind_of_3 : MT :=
(mTest (mOp (mInX false) (mVar 1) (mOp mIx (mVar 0) (mK (.int 3)))))
noncomputable def ml_kind_of_4 : MS :=
(mRet (mK (.str "load")))
noncomputable def ml_kind_of_3 : MS :=
(mIfS mc_kind_of_3
ml_kind_of_4
mNext)
noncomputable def mc_kind_of_1 : MT :=
(mTest (mOp (mInX false) (mVar 1) (mOp mIx (mVar 0) (mK (.int 4)))))
noncomputable def ml_kind_of_2 : MS :=
(mRet (mK (.str "store")))
noncomputable def ml_kind_of_1 : MS :=
(mIfS mc_kind_of_1
ml_kind_of_2
mNext)
noncomputable def m_kind_of : MS :=
(mSeq ml_kind_of_1
(mSeq ml_kind_of_3
ml_kind_of_5))
noncomputable def pf_kind_of : List PyData → Option PyData := toPure 2 2 m_kind_of
noncomputable def tr_kind_of (K : PySem.W.Frag) : TS :=
(tSeq (tIfS (tTest (tOp (rInX K false) (tVar 1) (tOp (rIx K) (tVar 0) (tC (.int 4)))))
(tRet (tC (.str "store")))
tNext)
(tSeq (tIfS (tTest (tOp (rInX K false) (tVar 1) (tOp (rIx K) (tVar 0) (tC (.int 3)))))
(tRet (tC (.str "load")))
tNext)
(tRet (tC .non))))
theorem sim_kind_of (K : PySem.W.Frag) : SimS K (tr_kind_of K) m_kind_of :=
(ss_seq (ss_if (sm_test (sm_op sm_var (sm_op sm_var sm_int sr_ix) sr_inX))
(ss_ret sm_str)
ss_next)
(ss_seq (ss_if (sm_test (sm_op sm_var (sm_op sm_var sm_int sr_ix) sr_inX))
(ss_ret sm_str)
ss_next)
(ss_ret sm_non)))
noncomputable def ml_sides_of_6 (TP0 : Addr) : MS :=
(mRet (mVar 1))
noncomputable def ml_sides_of_5 (TP0 : Addr) : MS :=
(mApp (mDSetd (mVar 1) (mVar 8) (mNew (mLst mNil))) (mTup (mCons (mVar 3) (mCons (mVar 4) (mCons (mVar 5) (mCons (mCB (liftD pf_kind_of) (mCons (mVar 2) (mCons (mVar 8) mNil))) mNil))))))
noncomputable def mb_sides_of_4 (TP0 : Addr) : MS :=
(ml_sides_of_5 TP0)
noncomputable def ml_sides_of_4 (TP0 : Addr) : MS :=
(mFor (mItT (mCB (liftD pf_each_once) (mCons (mOp mCatT (mVar 6) (mVar 7)) mNil))) (mgName 8) (mb_sides_of_4 TP0))
noncomputable def ml_sides_of_3 (TP0 : Addr) : MS :=
(mAsg (mVar 2) (mgTup 5 (mgCons (mgName 3) (mgCons (mgName 4) (mgCons (mgName 5) (mgCons (mgName 6) (mgCons (mgName 7) mgNil)))))))
noncomputable def mb_sides_of_2 (TP0 : Addr) : MS :=
(mSeq (ml_sides_of_3 TP0)
(ml_sides_of_4 TP0))
noncomputable def ml_sides_of_2 (TP0 : Addr) : MS :=
(mFor (mItL (mCB (fn_ascending TP0) (mCons (mVar 0) mNil))) (mgName 2) (mb_sides_of_2 TP0))
noncomputable def ml_sides_of_1 (TP0 : Addr) : MS :=
(mAsg mDNew (mgName 1))
noncomputable def m_sides_of (TP0 : Addr) : MS :=
(mSeq (ml_sides_of_1 TP0)
(mSeq (ml_sides_of_2 TP0)
(ml_sides_of_6 TP0)))
noncomputable def fn_sides_of (TP0 : Addr) : MCa := toHeap 1 9 (m_sides_of TP0)
noncomputable def tr_sides_of (K : PySem.W.Frag) (TP0 : Addr) : TS :=
(tSeq (tAsg tDNewK (gName 1))
(tSeq (tFor (iList K (tCall (spH K (fn_ascending TP0)) [] E0 (tCons (tVar 0) tNil))) (gName 2)
(tSeq (tAsg (tVar 2) (gTup K 5 (gCons (gName 3) (gCons (gName 4) (gCons (gName 5) (gCons (gName 6) (gCons (gName 7) gNil)))))))
(tFor (iTup K (tCall (spQ K pf_each_once) [] E0 (tCons (tOp (rCatA K) (tVar 6) (tVar 7)) tNil))) (gName 8)
(tDrop (tBM K "list" rAppend (tDSetd (tVar 1) (tVar 8) (tLst tNil)) (tCons (tTup (tCons (tVar 3) (tCons (tVar 4) (tCons (tVar 5) (tCons (tCall (spQ K pf_kind_of) [] E0 (tCons (tVar 2) (tCons (tVar 8) tNil))) tNil))))) tNil))))))
(tRet (tVar 1))))
theorem sim_sides_of (K : PySem.W.Frag) (TP0 : Addr) : SimS K (tr_sides_of K TP0) (m_sides_of TP0) :=
(ss_seq (ss_asg sm_dnew (sg_name (js := [1]) (by decide)))
(ss_seq (ss_for (si_list (sm_callH (sm_cons sm_var sm_nil))) (sg_name (js := [2]) (by decide))
(ss_seq (ss_asg sm_var (sg_tup (sg_cons (sg_name (js := [3, 4, 5, 6, 7]) (by decide)) (sg_cons (sg_name (js := [3, 4, 5, 6, 7]) (by decide)) (sg_cons (sg_name (js := [3, 4, 5, 6, 7]) (by decide)) (sg_cons (sg_name (js := [3, 4, 5, 6, 7]) (by decide)) (sg_cons (sg_name (js := [3, 4, 5, 6, 7]) (by decide)) sg_nil)))))))
(ss_for (si_tup (sm_callQ (sm_cons (sm_op sm_var sm_var sr_catT) sm_nil))) (sg_name (js := [8]) (by decide))
(ss_app (sm_dsetd sm_var sm_var (sm_new (sm_lst sm_nil))) (sm_tup (sm_cons sm_var (sm_cons sm_var (sm_cons sm_var (sm_cons (sm_callQ (sm_cons sm_var (sm_cons sm_var sm_nil))) sm_nil)))))))))
(ss_ret sm_var)))
noncomputable def ml_do_race_1 : MS :=
(mRet (mAndV (mOp (mInX false) (mK (.str "store")) (mTup (mCons (mOp mIx (mVar 0) (mK (.int 3))) (mCons (mOp mIx (mVar 1) (mK (.int 3))) mNil)))) (mCB (liftD pf_are_unordered) (mCons (mVar 0) (mCons (mVar 1) mNil)))))
noncomputable def m_do_race : MS :=
ml_do_race_1
noncomputable def pf_do_race : List PyData → Option PyData := toPure 2 2 m_do_race
noncomputable def tr_do_race (K : PySem.W.Frag) : TS :=
(tRet (tAndV (tOp (rInX K false) (tC (.str "store")) (tTup (tCons (tOp (rIx K) (tVar 0) (tC (.int 3))) (tCons (tOp (rIx K) (tVar 1) (tC (.int 3))) tNil)))) (tCall (spQ K pf_are_unordered) [] E0 (tCons (tVar 0) (tCons (tVar 1) tNil)))))
theorem sim_do_race (K : PySem.W.Frag) : SimS K (tr_do_race K) m_do_race :=
(ss_ret (sm_andV (sm_op sm_str (sm_tup (sm_cons (sm_op sm_var sm_int sr_ix) (sm_cons (sm_op sm_var sm_int sr_ix) sm_nil))) sr_inX) (sm_callQ (sm_cons sm_var (sm_cons sm_var sm_nil)))))
noncomputable def ml_papers_of_1 : MS :=
(mRet (mNew (mLc (mCmb (mCons (mVar 1) (mCons (mK (.int 2)) mNil))) (mgTup 2 (mgCons (mgName 2) (mgCons (mgName 3) mgNil))) (mTest (mCB (liftD pf_do_race) (mCons (mVar 2) (mCons (mVar 3) mNil)))) (mTup (mCons (mVar 0) (mCons (mVar 2) (mCons (mVar 3) mNil)))) [2, 3])))
noncomputable def m_papers_of : MS :=
ml_papers_of_1
noncomputable def fn_papers_of : MCa := toHeap 2 4 m_papers_of
noncomputable def tr_papers_of (K : PySem.W.Frag) : TS :=
(tRet (tLc (iCmb K (tCons (tVar 1) (tCons (tC (.int 2)) tNil))) (gTup K 2 (gCons (gName 2) (gCons (gName 3) gNil))) (tB (tCall (spQ K pf_do_race) [] E0 (tCons (tVar 2) (tCons (tVar 3) tNil)))) (tTup (tCons (tVar 0) (tCons (tVar 2) (tCons (tVar 3) tNil)))) [2, 3]))
theorem sim_papers_of (K : PySem.W.Frag) : SimS K (tr_papers_of K) m_papers_of :=
(ss_ret (sm_new (sm_lc (si_cmb (sm_cons sm_var (sm_cons sm_int sm_nil))) (sg_tup (sg_cons (sg_name (js := [2, 3]) (by decide)) (sg_cons (sg_name (js := [2, 3]) (by decide)) sg_nil))) (sm_B (sm_callQ (sm_cons sm_var (sm_cons sm_var sm_nil)))) (sm_tup (sm_cons sm_var (sm_cons sm_var (sm_cons sm_var sm_nil)))))))
noncomputable def ml_report_5 (TP0 : Addr) : MS :=
(mRet (mVar 2))
noncomputable def ml_report_4 (TP0 : Addr) : MS :=
(mExt (mVar 2) (mCB fn_papers_of (mCons (mVar 3) (mCons (mDGet (mVar 1) (mVar 3)) mNil))))
noncomputable def mb_report_3 (TP0 : Addr) : MS :=
(ml_report_4 TP0)
noncomputable def ml_report_3 (TP0 : Addr) : MS :=
(mFor (mItL (mDat (mCBF mSortDI (mCons (mVar 1) mNil)))) (mgName 3) (mb_report_3 TP0))
noncomputable def ml_report_2 (TP0 : Addr) : MS :=
(mAsg (mNew (mLst mNil)) (mgName 2))
noncomputable def ml_report_1 (TP0 : Addr) : MS :=
(mAsg (mCB (fn_sides_of TP0) (mCons (mVar 0) mNil)) (mgName 1))
noncomputable def m_report (TP0 : Addr) : MS :=
(mSeq (ml_report_1 TP0)
(mSeq (ml_report_2 TP0)
(mSeq (ml_report_3 TP0)
(ml_report_5 TP0))))
noncomputable def fn_report (TP0 : Addr) : MCa := toHeap 1 4 (m_report TP0)
noncomputable def tr_report (K : PySem.W.Frag) (TP0 : Addr) : TS :=
(tSeq (tAsg (tCall (spH K (fn_sides_of TP0)) [] E0 (tCons (tVar 0) tNil)) (gName 1))
(tSeq (tAsg (tLst tNil) (gName 2))
(tSeq (tFor (iList K (tCB rSortDI (tCons (tVar 1) tNil))) (gName 3)
(tDrop (tBM K "list" rExtend (tVar 2) (tCons (tCall (spH K fn_papers_of) [] E0 (tCons (tVar 3) (tCons (tDGet (tVar 1) (tVar 3)) tNil))) tNil))))
(tRet (tVar 2)))))
theorem sim_report (K : PySem.W.Frag) (TP0 : Addr) : SimS K (tr_report K TP0) (m_report TP0) :=
(ss_seq (ss_asg (sm_callH (sm_cons sm_var sm_nil)) (sg_name (js := [1]) (by decide)))
(ss_seq (ss_asg (sm_new (sm_lst sm_nil)) (sg_name (js := [2]) (by decide)))
(ss_seq (ss_for (si_list (sm_dat (sm_cbF (sm_cons sm_var sm_nil) sf_sortDI))) (sg_name (js := [3]) (by decide))
(ss_ext sm_var (sm_callH (sm_cons sm_var (sm_cons (sm_dget sm_var sm_var) sm_nil)))))
(ss_ret sm_var))))
noncomputable def ml_is_clock_1 : MS :=
(mRet (mAndV (mIsi "tuple" (mVar 0)) (mCB (liftD fAll) (mCons (mDat (mLc (mItT (mVar 0)) (mgName 1) mYes (mCB (liftD pf_is_whole) (mCons (mVar 1) mNil)) [1])) mNil))))
noncomputable def m_is_clock : MS :=
ml_is_clock_1
noncomputable def pf_is_clock : List PyData → Option PyData := toPure 1 2 m_is_clock
noncomputable def tr_is_clock (K : PySem.W.Frag) : TS :=
(tRet (tAndV (G.tIsi K (tVar 0) "tuple") (tCB (rAll K) (tCons (tLc (iTup K (tVar 0)) (gName 1) tYes (tCall (spQ K pf_is_whole) [] E0 (tCons (tVar 1) tNil)) [1]) tNil))))
theorem sim_is_clock (K : PySem.W.Frag) : SimS K (tr_is_clock K) m_is_clock :=
(ss_ret (sm_andV (sm_isi sm_var) (sm_cb (sm_cons (sm_dat (sm_lc (si_tup sm_var) (sg_name (js := [1]) (by decide)) sm_yes (sm_callQ (sm_cons sm_var sm_nil)))) sm_nil) sc_all)))
noncomputable def ml_is_side_4 : MS :=
(mRet (mAndV (mCB (liftD pf_is_whole) (mCons (mVar 1) mNil)) (mAndV (mCB (liftD pf_is_whole) (mCons (mVar 2) mNil)) (mAndV (mCB (liftD pf_is_clock) (mCons (mVar 3) mNil)) (mIsi "str" (mVar 4))))))
noncomputable def ml_is_side_3 : MS :=
(mAsg (mVar 0) (mgTup 4 (mgCons (mgName 1) (mgCons (mgName 2) (mgCons (mgName 3) (mgCons (mgName 4) mgNil))))))
noncomputable def mc_is_side_1 : MT :=
(mOr (mNot (mTest (mIsi "tuple" (mVar 0)))) (mTest (mOp (mEqD true) (mCB mLen (mCons (mVar 0) mNil)) (mK (.int 4)))))
noncomputable def ml_is_side_2 : MS :=
(mRet (mK (.bool false)))
noncomputable def ml_is_side_1 : MS :=
(mIfS mc_is_side_1
ml_is_side_2
mNext)
noncomputable def m_is_side : MS :=
(mSeq ml_is_side_1
(mSeq ml_is_side_3
ml_is_side_4))
noncomputable def pf_is_side : List PyData → Option PyData := toPure 1 5 m_is_side
noncomputable def tr_is_side (K : PySem.W.Frag) : TS :=
(tSeq (tIfS (tOr (tNot (tB (G.tIsi K (tVar 0) "tuple"))) (tTest (tOp (rNeD K) (tCB (G.rLen K) (tCons (tVar 0) tNil)) (tC (.int 4)))))
(tRet (tC (.bl false)))
tNext)
(tSeq (tAsg (tVar 0) (gTup K 4 (gCons (gName 1) (gCons (gName 2) (gCons (gName 3) (gCons (gName 4) gNil))))))
(tRet (tAndV (tCall (spQ K pf_is_whole) [] E0 (tCons (tVar 1) tNil)) (tAndV (tCall (spQ K pf_is_whole) [] E0 (tCons (tVar 2) tNil)) (tAndV (tCall (spQ K pf_is_clock) [] E0 (tCons (tVar 3) tNil)) (G.tIsi K (tVar 4) "str")))))))
theorem sim_is_side (K : PySem.W.Frag) : SimS K (tr_is_side K) m_is_side :=
(ss_seq (ss_if (sm_or (sm_not (sm_B (sm_isi sm_var))) (sm_test (sm_op (sm_cb (sm_cons sm_var sm_nil) sc_len) sm_int sr_ne)))
(ss_ret sm_bl)
ss_next)
(ss_seq (ss_asg sm_var (sg_tup (sg_cons (sg_name (js := [1, 2, 3, 4]) (by decide)) (sg_cons (sg_name (js := [1, 2, 3, 4]) (by decide)) (sg_cons (sg_name (js := [1, 2, 3, 4]) (by decide)) (sg_cons (sg_name (js := [1, 2, 3, 4]) (by decide)) sg_nil))))))
(ss_ret (sm_andV (sm_callQ (sm_cons sm_var sm_nil)) (sm_andV (sm_callQ (sm_cons sm_var sm_nil)) (sm_andV (sm_callQ (sm_cons sm_var sm_nil)) (sm_isi sm_var)))))))
noncomputable def ml_is_paper_4 : MS :=
(mRet (mAndV (mCB (liftD pf_is_whole) (mCons (mVar 1) mNil)) (mAndV (mCB (liftD pf_is_side) (mCons (mVar 2) mNil)) (mCB (liftD pf_is_side) (mCons (mVar 3) mNil)))))
noncomputable def ml_is_paper_3 : MS :=
(mAsg (mVar 0) (mgTup 3 (mgCons (mgName 1) (mgCons (mgName 2) (mgCons (mgName 3) mgNil)))))
noncomputable def mc_is_paper_1 : MT :=
(mOr (mNot (mTest (mIsi "tuple" (mVar 0)))) (mTest (mOp (mEqD true) (mCB mLen (mCons (mVar 0) mNil)) (mK (.int 3)))))
noncomputable def ml_is_paper_2 : MS :=
(mRet (mK (.bool false)))
noncomputable def ml_is_paper_1 : MS :=
(mIfS mc_is_paper_1
ml_is_paper_2
mNext)
noncomputable def m_is_paper : MS :=
(mSeq ml_is_paper_1
(mSeq ml_is_paper_3
ml_is_paper_4))
noncomputable def pf_is_paper : List PyData → Option PyData := toPure 1 4 m_is_paper
noncomputable def tr_is_paper (K : PySem.W.Frag) : TS :=
(tSeq (tIfS (tOr (tNot (tB (G.tIsi K (tVar 0) "tuple"))) (tTest (tOp (rNeD K) (tCB (G.rLen K) (tCons (tVar 0) tNil)) (tC (.int 3)))))
(tRet (tC (.bl false)))
tNext)
(tSeq (tAsg (tVar 0) (gTup K 3 (gCons (gName 1) (gCons (gName 2) (gCons (gName 3) gNil)))))
(tRet (tAndV (tCall (spQ K pf_is_whole) [] E0 (tCons (tVar 1) tNil)) (tAndV (tCall (spQ K pf_is_side) [] E0 (tCons (tVar 2) tNil)) (tCall (spQ K pf_is_side) [] E0 (tCons (tVar 3) tNil)))))))
theorem sim_is_paper (K : PySem.W.Frag) : SimS K (tr_is_paper K) m_is_paper :=
(ss_seq (ss_if (sm_or (sm_not (sm_B (sm_isi sm_var))) (sm_test (sm_op (sm_cb (sm_cons sm_var sm_nil) sc_len) sm_int sr_ne)))
(ss_ret sm_bl)
ss_next)
(ss_seq (ss_asg sm_var (sg_tup (sg_cons (sg_name (js := [1, 2, 3]) (by decide)) (sg_cons (sg_name (js := [1, 2, 3]) (by decide)) (sg_cons (sg_name (js := [1, 2, 3]) (by decide)) sg_nil)))))
(ss_ret (sm_andV (sm_callQ (sm_cons sm_var sm_nil)) (sm_andV (sm_callQ (sm_cons sm_var sm_nil)) (sm_callQ (sm_cons sm_var sm_nil)))))))
noncomputable def ml_is_told_1 : MS :=
(mRet (mCB (liftD fAny) (mCons (mDat (mLc (mItL (mVar 2)) (mgName 3) mYes (mAndV (mOp (mEqD false) (mSlT (mVar 3) mNoPart (mPart (mK (.int 3)))) (mSlT (mVar 0) mNoPart (mPart (mK (.int 3))))) (mOp (mEqD false) (mCB (liftD pf_kind_of) (mCons (mVar 3) (mCons (mVar 1) mNil))) (mOp mIx (mVar 0) (mK (.int 3))))) [3])) mNil)))
noncomputable def m_is_told : MS :=
ml_is_told_1
noncomputable def pf_is_told : List PyData → Option PyData := toPure 3 4 m_is_told
noncomputable def tr_is_told (K : PySem.W.Frag) : TS :=
(tRet (tCB (rAny K) (tCons (tLc (iList K (tVar 2)) (gName 3) tYes (tAndV (tOp (rEqD K) (tSl (rSlT K) (tVar 3) tNoPart (tPart (tC (.int 3)))) (tSl (rSlT K) (tVar 0) tNoPart (tPart (tC (.int 3))))) (tOp (rEqD K) (tCall (spQ K pf_kind_of) [] E0 (tCons (tVar 3) (tCons (tVar 1) tNil))) (tOp (rIx K) (tVar 0) (tC (.int 3))))) [3]) tNil)))
theorem sim_is_told (K : PySem.W.Frag) : SimS K (tr_is_told K) m_is_told :=
(ss_ret (sm_cb (sm_cons (sm_dat (sm_lc (si_list sm_var) (sg_name (js := [3]) (by decide)) sm_yes (sm_andV (sm_op (sm_slT sm_var so_none (so_some sm_int)) (sm_slT sm_var so_none (so_some sm_int)) sr_eq) (sm_op (sm_callQ (sm_cons sm_var (sm_cons sm_var sm_nil))) (sm_op sm_var sm_int sr_ix) sr_eq)))) sm_nil) sc_any))
noncomputable def ml_is_right_6 : MS :=
(mRet (mAndV (mOp (mIB fun i j => decide (i < j)) (mOp mIx (mVar 3) (mK (.int 0))) (mOp mIx (mVar 4) (mK (.int 0)))) (mCB (liftD pf_do_race) (mCons (mVar 3) (mCons (mVar 4) mNil)))))
noncomputable def mc_is_right_4 : MT :=
(mOr (mNot (mTest (mCB (liftD pf_is_told) (mCons (mVar 3) (mCons (mVar 2) (mCons (mVar 1) mNil)))))) (mNot (mTest (mCB (liftD pf_is_told) (mCons (mVar 4) (mCons (mVar 2) (mCons (mVar 1) mNil)))))))
noncomputable def ml_is_right_5 : MS :=
(mRet (mK (.bool false)))
noncomputable def ml_is_right_4 : MS :=
(mIfS mc_is_right_4
ml_is_right_5
mNext)
noncomputable def ml_is_right_3 : MS :=
(mAsg (mVar 0) (mgTup 3 (mgCons (mgName 2) (mgCons (mgName 3) (mgCons (mgName 4) mgNil)))))
noncomputable def mc_is_right_1 : MT :=
(mNot (mTest (mCB (liftD pf_is_paper) (mCons (mVar 0) mNil))))
noncomputable def ml_is_right_2 : MS :=
(mRet (mK (.bool false)))
noncomputable def ml_is_right_1 : MS :=
(mIfS mc_is_right_1
ml_is_right_2
mNext)
noncomputable def m_is_right : MS :=
(mSeq ml_is_right_1
(mSeq ml_is_right_3
(mSeq ml_is_right_4
ml_is_right_6)))
noncomputable def pf_is_right : List PyData → Option PyData := toPure 2 5 m_is_right
noncomputable def tr_is_right (K : PySem.W.Frag) : TS :=
(tSeq (tIfS (tNot (tB (tCall (spQ K pf_is_paper) [] E0 (tCons (tVar 0) tNil))))
(tRet (tC (.bl false)))
tNext)
(tSeq (tAsg (tVar 0) (gTup K 3 (gCons (gName 2) (gCons (gName 3) (gCons (gName 4) gNil)))))
(tSeq (tIfS (tOr (tNot (tB (tCall (spQ K pf_is_told) [] E0 (tCons (tVar 3) (tCons (tVar 2) (tCons (tVar 1) tNil)))))) (tNot (tB (tCall (spQ K pf_is_told) [] E0 (tCons (tVar 4) (tCons (tVar 2) (tCons (tVar 1) tNil)))))))
(tRet (tC (.bl false)))
tNext)
(tRet (tAndV (tOp (rI0 fun i j => .bl (decide (i < j))) (tOp (rIx K) (tVar 3) (tC (.int 0))) (tOp (rIx K) (tVar 4) (tC (.int 0)))) (tCall (spQ K pf_do_race) [] E0 (tCons (tVar 3) (tCons (tVar 4) tNil))))))))
theorem sim_is_right (K : PySem.W.Frag) : SimS K (tr_is_right K) m_is_right :=
(ss_seq (ss_if (sm_not (sm_B (sm_callQ (sm_cons sm_var sm_nil))))
(ss_ret sm_bl)
ss_next)
(ss_seq (ss_asg sm_var (sg_tup (sg_cons (sg_name (js := [2, 3, 4]) (by decide)) (sg_cons (sg_name (js := [2, 3, 4]) (by decide)) (sg_cons (sg_name (js := [2, 3, 4]) (by decide)) sg_nil)))))
(ss_seq (ss_if (sm_or (sm_not (sm_B (sm_callQ (sm_cons sm_var (sm_cons sm_var (sm_cons sm_var sm_nil)))))) (sm_not (sm_B (sm_callQ (sm_cons sm_var (sm_cons sm_var (sm_cons sm_var sm_nil)))))))
(ss_ret sm_bl)
ss_next)
(ss_ret (sm_andV (sm_op (sm_op sm_var sm_int sr_ix) (sm_op sm_var sm_int sr_ix) sr_bl) (sm_callQ (sm_cons sm_var (sm_cons sm_var sm_nil))))))))
noncomputable def m__law_cell : MS :=
(mSeq (mIfS (mTest (mOp (mIB fun i j => decide (i < j)) (mVar 1) (mCB mLen (mCons (mVar 0) mNil))))
(mRet (mCB (liftD fInt1) (mCons (mOp mIx (mVar 0) (mVar 1)) mNil)))
mNext)
(mRet (mK (.int 0))))
noncomputable def pf__law_cell : List PyData → Option PyData := toPure 2 2 m__law_cell
noncomputable def tr__law_cell (K : PySem.W.Frag) : TS :=
(tSeq (tIfS (tTest (tOp (rI0 fun i j => .bl (decide (i < j))) (tVar 1) (tCB (G.rLen K) (tCons (tVar 0) tNil))))
(tRet (tCB rInt1 (tCons (tOp (rIx K) (tVar 0) (tVar 1)) tNil)))
tNext)
(tRet (tC (.int 0))))
theorem sim__law_cell (K : PySem.W.Frag) : SimS K (tr__law_cell K) m__law_cell :=
(ss_seq (ss_if (sm_test (sm_op sm_var (sm_cb (sm_cons sm_var sm_nil) sc_len) sr_bl))
(ss_ret (sm_cb (sm_cons (sm_op sm_var sm_var sr_ix) sm_nil) sc_int1))
ss_next)
(ss_ret sm_int))
noncomputable def mb__law_digits_1 : MS :=
(mIfS (mTest (mOp (mIB fun i j => decide (j ≤ i)) (mVar 0) (mOp (mIC CPow fun i j => i ^ j.toNat) (mK (.int 10)) (mK (.int 18)))))
(mSeq (mApp (mVar 2) (mOp (mIC (fun _ j => 0 < j) fun i j => i % j) (mCB (liftD fInt1) (mCons (mVar 3) mNil)) (mVar 4)))
(mAsg (mOp (mIC CDivW fun i j => i / j) (mVar 3) (mVar 4)) (mgName 3)))
(mSeq (mAsg (mOp (mIC (fun _ j => 0 < j) fun i j => i % j) (mOp (mI fun i j => i + j) (mOp (mI fun i j => i + j) (mOp (mIC (fun i j => CMul i j ∨ CMulW i j) fun i j => i * j) (mCB (liftD fInt1) (mCons (mVar 3) mNil)) (mK (.int 48271))) (mOp (mIC (fun i j => CMul i j ∨ CMulW i j) fun i j => i * j) (mK (.int 1009)) (mCB mLen (mCons (mVar 2) mNil)))) (mK (.int 12345))) (mK (.int 2147483647))) (mgName 3))
(mSeq (mAsg (mOp (mIC (fun _ j => 0 < j) fun i j => i % j) (mOp (mIC (fun i j => CMul i j ∨ CMulW i j) fun i j => i * j) (mCB (liftD fInt1) (mCons (mVar 3) mNil)) (mCB (liftD fInt1) (mCons (mVar 3) mNil))) (mK (.int 2147483629))) (mgName 5))
(mApp (mVar 2) (mOp (mIC (fun _ j => 0 < j) fun i j => i % j) (mOp (mIC CDivW fun i j => i / j) (mCB (liftD fInt1) (mCons (mVar 5) mNil)) (mK (.int 13))) (mVar 4))))))
noncomputable def m__law_digits : MS :=
(mSeq (mAsg (mNew (mLst mNil)) (mgName 2))
(mSeq (mAsg (mCB (liftD fInt1) (mCons (mVar 0) mNil)) (mgName 3))
(mSeq (mFor (mItL (mVar 1)) (mgName 4) mb__law_digits_1)
(mRet (mVar 2)))))
noncomputable def pf__law_digits : List PyData → Option PyData := toPure 2 6 m__law_digits
noncomputable def tr__law_digits (K : PySem.W.Frag) : TS :=
(tSeq (tAsg (tLst tNil) (gName 2))
(tSeq (tAsg (tCB rInt1 (tCons (tVar 0) tNil)) (gName 3))
(tSeq (tFor (iList K (tVar 1)) (gName 4)
(tIfS (tTest (tOp (rI0 fun i j => .bl (decide (j ≤ i))) (tVar 0) (tOp (rI CPow fun i j => .int (i ^ j.toNat)) (tC (.int 10)) (tC (.int 18)))))
(tSeq (tDrop (tBM K "list" rAppend (tVar 2) (tCons (tOp (rI (fun _ j => 0 < j) fun i j => .int (i % j)) (tCB rInt1 (tCons (tVar 3) tNil)) (tVar 4)) tNil)))
(tAsg (tOp (rI CDivW fun i j => .int (i / j)) (tVar 3) (tVar 4)) (gName 3)))
(tSeq (tAsg (tOp (rI (fun _ j => 0 < j) fun i j => .int (i % j)) (tOp (rI0 fun i j => .int (i + j)) (tOp (rI0 fun i j => .int (i + j)) (tOp (rI (fun i j => CMul i j ∨ CMulW i j) fun i j => .int (i * j)) (tCB rInt1 (tCons (tVar 3) tNil)) (tC (.int 48271))) (tOp (rI (fun i j => CMul i j ∨ CMulW i j) fun i j => .int (i * j)) (tC (.int 1009)) (tCB (G.rLen K) (tCons (tVar 2) tNil)))) (tC (.int 12345))) (tC (.int 2147483647))) (gName 3))
(tSeq (tAsg (tOp (rI (fun _ j => 0 < j) fun i j => .int (i % j)) (tOp (rI (fun i j => CMul i j ∨ CMulW i j) fun i j => .int (i * j)) (tCB rInt1 (tCons (tVar 3) tNil)) (tCB rInt1 (tCons (tVar 3) tNil))) (tC (.int 2147483629))) (gName 5))
(tDrop (tBM K "list" rAppend (tVar 2) (tCons (tOp (rI (fun _ j => 0 < j) fun i j => .int (i % j)) (tOp (rI CDivW fun i j => .int (i / j)) (tCB rInt1 (tCons (tVar 5) tNil)) (tC (.int 13))) (tVar 4)) tNil)))))))
(tRet (tVar 2)))))
theorem sim__law_digits (K : PySem.W.Frag) : SimS K (tr__law_digits K) m__law_digits :=
(ss_seq (ss_asg (sm_new (sm_lst sm_nil)) (sg_name (js := [2]) (by decide)))
(ss_seq (ss_asg (sm_cb (sm_cons sm_var sm_nil) sc_int1) (sg_name (js := [3]) (by decide)))
(ss_seq (ss_for (si_list sm_var) (sg_name (js := [4]) (by decide))
(ss_if (sm_test (sm_op sm_var (sm_op sm_int sm_int sr_intC) sr_bl))
(ss_seq (ss_app sm_var (sm_op (sm_cb (sm_cons sm_var sm_nil) sc_int1) sm_var sr_intC))
(ss_asg (sm_op sm_var sm_var sr_intC) (sg_name (js := [3]) (by decide))))
(ss_seq (ss_asg (sm_op (sm_op (sm_op (sm_op (sm_cb (sm_cons sm_var sm_nil) sc_int1) sm_int sr_intC) (sm_op sm_int (sm_cb (sm_cons sm_var sm_nil) sc_len) sr_intC) sr_int) sm_int sr_int) sm_int sr_intC) (sg_name (js := [3]) (by decide)))
(ss_seq (ss_asg (sm_op (sm_op (sm_cb (sm_cons sm_var sm_nil) sc_int1) (sm_cb (sm_cons sm_var sm_nil) sc_int1) sr_intC) sm_int sr_intC) (sg_name (js := [5]) (by decide)))
(ss_app sm_var (sm_op (sm_op (sm_cb (sm_cons sm_var sm_nil) sc_int1) sm_int sr_intC) sm_var sr_intC))))))
(ss_ret sm_var))))
noncomputable def m__law_many : MS :=
(mSeq (mIfS (mAnd (mTest (mOp (mIB fun i j => decide (j < i)) (mCB mLen (mCons (mVar 0) mNil)) (mK (.int 0)))) (mTest (mOp (mEqD false) (mOp (mIC (fun _ j => 0 < j) fun i j => i % j) (mOp (mIC CDivW fun i j => i / j) (mCB (liftD fInt1) (mCons (mOp mIx (mVar 0) (mK (.int 0))) mNil)) (mK (.int 1009))) (mK (.int 5))) (mK (.int 1)))))
(mRet (mVar 2))
mNext)
(mRet (mVar 1)))
noncomputable def pf__law_many : List PyData → Option PyData := toPure 3 3 m__law_many
noncomputable def tr__law_many (K : PySem.W.Frag) : TS :=
(tSeq (tIfS (tAnd (tTest (tOp (rI0 fun i j => .bl (decide (j < i))) (tCB (G.rLen K) (tCons (tVar 0) tNil)) (tC (.int 0)))) (tTest (tOp (rEqD K) (tOp (rI (fun _ j => 0 < j) fun i j => .int (i % j)) (tOp (rI CDivW fun i j => .int (i / j)) (tCB rInt1 (tCons (tOp (rIx K) (tVar 0) (tC (.int 0))) tNil)) (tC (.int 1009))) (tC (.int 5))) (tC (.int 1)))))
(tRet (tVar 2))
tNext)
(tRet (tVar 1)))
theorem sim__law_many (K : PySem.W.Frag) : SimS K (tr__law_many K) m__law_many :=
(ss_seq (ss_if (sm_and (sm_test (sm_op (sm_cb (sm_cons sm_var sm_nil) sc_len) sm_int sr_bl)) (sm_test (sm_op (sm_op (sm_op (sm_cb (sm_cons (sm_op sm_var sm_int sr_ix) sm_nil) sc_int1) sm_int sr_intC) sm_int sr_intC) sm_int sr_eq)))
(ss_ret sm_var)
ss_next)
(ss_ret sm_var))
noncomputable def ml__law_run_17 : MS :=
(mRet (mVar 2))
noncomputable def ml__law_run_16 : MS :=
(mSetL (mCB mTupOf (mCons (mVar 11) mNil)) (mVar 3) (mVar 5))
noncomputable def mc__law_run_12 : MT :=
(mAnd (mTest (mOp (mIB fun i j => decide (j < i)) (mOp mIx (mVar 7) (mK (.int 5))) (mK (.int 0)))) (mTest (mOp (mEqD true) (mVar 4) (mVar 5))))
noncomputable def mc__law_run_14 : MT :=
(mTest (mOp (mEqD true) (mVar 12) (mDat (mLst mNil))))
noncomputable def ml__law_run_15 : MS :=
(mAsg (mNew (mLc (mRng1 (mCons (mVar 1) mNil)) (mgName 15) mYes (mCB (liftD fMax2) (mCons (mOp mIx (mVar 11) (mVar 15)) (mCons (mOp mIx (mOp mIx (mOp mIx (mVar 12) (mUn mNeg (mK (.int 1)))) (mK (.int 2))) (mVar 15)) mNil))) [15])) (mgName 11))
noncomputable def ml__law_run_14 : MS :=
(mIfS mc__law_run_14
ml__law_run_15
mNext)
noncomputable def ml__law_run_13 : MS :=
(mAsg (mDat (mLc (mItL (mVar 2)) (mgName 14) (mTest (mOp (mEqD false) (mOp mIx (mVar 14) (mK (.int 0))) (mVar 4))) (mVar 14) [14])) (mgName 12))
noncomputable def ml__law_run_12 : MS :=
(mIfS mc__law_run_12
(mSeq ml__law_run_13
ml__law_run_14)
mNext)
noncomputable def ml__law_run_11 : MS :=
(mSetL (mOp (mI fun i j => i + j) (mOp mIx (mVar 11) (mVar 5)) (mK (.int 1))) (mVar 11) (mVar 5))
noncomputable def ml__law_run_10 : MS :=
(mAsg (mNew (mCBF mListOf (mCons (mOp mIx (mVar 3) (mVar 5)) mNil))) (mgName 11))
noncomputable def ml__law_run_9 : MS :=
(mApp (mVar 2) (mDat (mLst (mCons (mVar 5) (mCons (mOp mIx (mOp mIx (mVar 3) (mVar 5)) (mVar 5)) (mCons (mOp mIx (mVar 3) (mVar 5)) (mCons (mVar 9) (mCons (mVar 10) (mCons (mTup (mCons (mVar 5) (mCons (mVar 4) (mCons (mOp mIx (mVar 7) (mK (.int 5))) mNil)))) mNil)))))))))
noncomputable def ml__law_run_8 : MS :=
(mAsg (mDat (mLc (mItL (mVar 8)) (mgName 13) (mOr (mTest (mOp (mEqD false) (mOp mIx (mVar 7) (mK (.int 2))) (mK (.int 1)))) (mAnd (mTest (mOp (mEqD false) (mOp mIx (mVar 7) (mK (.int 2))) (mK (.int 2)))) (mTest (mOp (mEqD false) (mVar 13) (mOp mIx (mVar 7) (mK (.int 3))))))) (mVar 13) [13])) (mgName 10))
noncomputable def ml__law_run_7 : MS :=
(mAsg (mDat (mLc (mItL (mVar 8)) (mgName 13) (mTest (mOp (mEqD true) (mOp mIx (mVar 7) (mK (.int 2))) (mK (.int 1)))) (mVar 13) [13])) (mgName 9))
noncomputable def ml__law_run_6 : MS :=
(mAsg (mDat (mLc (mRng1 (mCons (mK (.int 8)) mNil)) (mgName 13) (mOr (mTest (mOp (mEqD false) (mVar 13) (mOp mIx (mVar 7) (mK (.int 3))))) (mAnd (mTest (mOp (mEqD false) (mOp mIx (mVar 7) (mK (.int 5))) (mK (.int 1)))) (mTest (mOp (mEqD false) (mVar 13) (mOp mIx (mVar 7) (mK (.int 4))))))) (mVar 13) [13])) (mgName 8))
noncomputable def ml__law_run_5 : MS :=
(mAsg (mTup (mCons (mOp mIx (mVar 7) (mK (.int 0))) (mCons (mOp mIx (mVar 7) (mK (.int 1))) mNil))) (mgTup 2 (mgCons (mgName 5) (mgCons (mgName 4) mgNil))))
noncomputable def ml__law_run_4 : MS :=
(mAsg (mCB (liftD pf__law_digits) (mCons (mOp (mI fun i j => i + j) (mOp mIx (mVar 0) (mVar 6)) (mOp (mIC (fun i j => CMul i j ∨ CMulW i j) fun i j => i * j) (mK (.int 5)) (mVar 6))) (mCons (mDat (mLst (mCons (mVar 1) (mCons (mVar 1) (mCons (mK (.int 4)) (mCons (mK (.int 8)) (mCons (mK (.int 8)) (mCons (mK (.int 3)) mNil)))))))) mNil))) (mgName 7))
noncomputable def mb__law_run_3 : MS :=
(mSeq ml__law_run_4
(mSeq ml__law_run_5
(mSeq ml__law_run_6
(mSeq ml__law_run_7
(mSeq ml__law_run_8
(mSeq ml__law_run_9
(mSeq ml__law_run_10
(mSeq ml__law_run_11
(mSeq ml__law_run_12
ml__law_run_16)))))))))
noncomputable def ml__law_run_3 : MS :=
(mFor (mRng1 (mCons (mCB mLen (mCons (mVar 0) mNil)) mNil)) (mgName 6) mb__law_run_3)
noncomputable def ml__law_run_2 : MS :=
(mAsg (mNew (mLc (mRng1 (mCons (mVar 1) mNil)) (mgName 5) mYes (mCB mTupOf (mCons (mDat (mLc (mRng1 (mCons (mVar 1) mNil)) (mgName 4) mYes (mCB (liftD fInt1) (mCons (mOp (mEqD false) (mVar 5) (mVar 4)) mNil)) [4])) mNil)) [5])) (mgName 3))
noncomputable def ml__law_run_1 : MS :=
(mAsg (mNew (mLst mNil)) (mgName 2))
noncomputable def m__law_run : MS :=
(mSeq ml__law_run_1
(mSeq ml__law_run_2
(mSeq ml__law_run_3
ml__law_run_17)))
noncomputable def pf__law_run : List PyData → Option PyData := toPure 2 16 m__law_run
noncomputable def tr__law_run (K : PySem.W.Frag) : TS :=
(tSeq (tAsg (tLst tNil) (gName 2))
(tSeq (tAsg (tLc (iRng1 (tCons (tVar 1) tNil)) (gName 5) tYes (tCB (rTupOf K) (tCons (tLc (iRng1 (tCons (tVar 1) tNil)) (gName 4) tYes (tCB rInt1 (tCons (tOp (rEqD K) (tVar 5) (tVar 4)) tNil)) [4]) tNil)) [5]) (gName 3))
(tSeq (tFor (iRng1 (tCons (tCB (G.rLen K) (tCons (tVar 0) tNil)) tNil)) (gName 6)
(tSeq (tAsg (tCall (spQ K pf__law_digits) [] E0 (tCons (tOp (rI0 fun i j => .int (i + j)) (tOp (rIx K) (tVar 0) (tVar 6)) (tOp (rI (fun i j => CMul i j ∨ CMulW i j) fun i j => .int (i * j)) (tC (.int 5)) (tVar 6))) (tCons (tLst (tCons (tVar 1) (tCons (tVar 1) (tCons (tC (.int 4)) (tCons (tC (.int 8)) (tCons (tC (.int 8)) (tCons (tC (.int 3)) tNil))))))) tNil))) (gName 7))
(tSeq (tAsg (tTup (tCons (tOp (rIx K) (tVar 7) (tC (.int 0))) (tCons (tOp (rIx K) (tVar 7) (tC (.int 1))) tNil))) (gTup K 2 (gCons (gName 5) (gCons (gName 4) gNil))))
(tSeq (tAsg (tLc (iRng1 (tCons (tC (.int 8)) tNil)) (gName 13) (tOr (tTest (tOp (rEqD K) (tVar 13) (tOp (rIx K) (tVar 7) (tC (.int 3))))) (tAnd (tTest (tOp (rEqD K) (tOp (rIx K) (tVar 7) (tC (.int 5))) (tC (.int 1)))) (tTest (tOp (rEqD K) (tVar 13) (tOp (rIx K) (tVar 7) (tC (.int 4))))))) (tVar 13) [13]) (gName 8))
(tSeq (tAsg (tLc (iList K (tVar 8)) (gName 13) (tTest (tOp (rNeD K) (tOp (rIx K) (tVar 7) (tC (.int 2))) (tC (.int 1)))) (tVar 13) [13]) (gName 9))
(tSeq (tAsg (tLc (iList K (tVar 8)) (gName 13) (tOr (tTest (tOp (rEqD K) (tOp (rIx K) (tVar 7) (tC (.int 2))) (tC (.int 1)))) (tAnd (tTest (tOp (rEqD K) (tOp (rIx K) (tVar 7) (tC (.int 2))) (tC (.int 2)))) (tTest (tOp (rEqD K) (tVar 13) (tOp (rIx K) (tVar 7) (tC (.int 3))))))) (tVar 13) [13]) (gName 10))
(tSeq (tDrop (tBM K "list" rAppend (tVar 2) (tCons (tLst (tCons (tVar 5) (tCons (tOp (rIx K) (tOp (rIx K) (tVar 3) (tVar 5)) (tVar 5)) (tCons (tOp (rIx K) (tVar 3) (tVar 5)) (tCons (tVar 9) (tCons (tVar 10) (tCons (tTup (tCons (tVar 5) (tCons (tVar 4) (tCons (tOp (rIx K) (tVar 7) (tC (.int 5))) tNil)))) tNil))))))) tNil)))
(tSeq (tAsg (tCB (rListOf K) (tCons (tOp (rIx K) (tVar 3) (tVar 5)) tNil)) (gName 11))
(tSeq (tAsg (tOp (rI0 fun i j => .int (i + j)) (tOp (rIx K) (tVar 11) (tVar 5)) (tC (.int 1))) (gSub (tVar 11) (tVar 5) rSetL))
(tSeq (tIfS (tAnd (tTest (tOp (rI0 fun i j => .bl (decide (j < i))) (tOp (rIx K) (tVar 7) (tC (.int 5))) (tC (.int 0)))) (tTest (tOp (rNeD K) (tVar 4) (tVar 5))))
(tSeq (tAsg (tLc (iList K (tVar 2)) (gName 14) (tTest (tOp (rEqD K) (tOp (rIx K) (tVar 14) (tC (.int 0))) (tVar 4))) (tVar 14) [14]) (gName 12))
(tIfS (tTest (tOp (rNeD K) (tVar 12) (tLst tNil)))
(tAsg (tLc (iRng1 (tCons (tVar 1) tNil)) (gName 15) tYes (tCB rMax2 (tCons (tOp (rIx K) (tVar 11) (tVar 15)) (tCons (tOp (rIx K) (tOp (rIx K) (tOp (rIx K) (tVar 12) (tUn (rU fun i => .int (-i)) (tC (.int 1)))) (tC (.int 2))) (tVar 15)) tNil))) [15]) (gName 11))
tNext))
tNext)
(tAsg (tCB (rTupOf K) (tCons (tVar 11) tNil)) (gSub (tVar 3) (tVar 5) rSetL))))))))))))
(tRet (tVar 2)))))
theorem sim__law_run (K : PySem.W.Frag) : SimS K (tr__law_run K) m__law_run :=
(ss_seq (ss_asg (sm_new (sm_lst sm_nil)) (sg_name (js := [2]) (by decide)))
(ss_seq (ss_asg (sm_new (sm_lc (si_rng1 (sm_cons sm_var sm_nil)) (sg_name (js := [5]) (by decide)) sm_yes (sm_cb (sm_cons (sm_dat (sm_lc (si_rng1 (sm_cons sm_var sm_nil)) (sg_name (js := [4]) (by decide)) sm_yes (sm_cb (sm_cons (sm_op sm_var sm_var sr_eq) sm_nil) sc_int1))) sm_nil) sc_tup))) (sg_name (js := [3]) (by decide)))
(ss_seq (ss_for (si_rng1 (sm_cons (sm_cb (sm_cons sm_var sm_nil) sc_len) sm_nil)) (sg_name (js := [6]) (by decide))
(ss_seq (ss_asg (sm_callQ (sm_cons (sm_op (sm_op sm_var sm_var sr_ix) (sm_op sm_int sm_var sr_intC) sr_int) (sm_cons (sm_dat (sm_lst (sm_cons sm_var (sm_cons sm_var (sm_cons sm_int (sm_cons sm_int (sm_cons sm_int (sm_cons sm_int sm_nil)))))))) sm_nil))) (sg_name (js := [7]) (by decide)))
(ss_seq (ss_asg (sm_tup (sm_cons (sm_op sm_var sm_int sr_ix) (sm_cons (sm_op sm_var sm_int sr_ix) sm_nil))) (sg_tup (sg_cons (sg_name (js := [5, 4]) (by decide)) (sg_cons (sg_name (js := [5, 4]) (by decide)) sg_nil))))
(ss_seq (ss_asg (sm_dat (sm_lc (si_rng1 (sm_cons sm_int sm_nil)) (sg_name (js := [13]) (by decide)) (sm_or (sm_test (sm_op sm_var (sm_op sm_var sm_int sr_ix) sr_eq)) (sm_and (sm_test (sm_op (sm_op sm_var sm_int sr_ix) sm_int sr_eq)) (sm_test (sm_op sm_var (sm_op sm_var sm_int sr_ix) sr_eq)))) sm_var)) (sg_name (js := [8]) (by decide)))
(ss_seq (ss_asg (sm_dat (sm_lc (si_list sm_var) (sg_name (js := [13]) (by decide)) (sm_test (sm_op (sm_op sm_var sm_int sr_ix) sm_int sr_ne)) sm_var)) (sg_name (js := [9]) (by decide)))
(ss_seq (ss_asg (sm_dat (sm_lc (si_list sm_var) (sg_name (js := [13]) (by decide)) (sm_or (sm_test (sm_op (sm_op sm_var sm_int sr_ix) sm_int sr_eq)) (sm_and (sm_test (sm_op (sm_op sm_var sm_int sr_ix) sm_int sr_eq)) (sm_test (sm_op sm_var (sm_op sm_var sm_int sr_ix) sr_eq)))) sm_var)) (sg_name (js := [10]) (by decide)))
(ss_seq (ss_app sm_var (sm_dat (sm_lst (sm_cons sm_var (sm_cons (sm_op (sm_op sm_var sm_var sr_ix) sm_var sr_ix) (sm_cons (sm_op sm_var sm_var sr_ix) (sm_cons sm_var (sm_cons sm_var (sm_cons (sm_tup (sm_cons sm_var (sm_cons sm_var (sm_cons (sm_op sm_var sm_int sr_ix) sm_nil)))) sm_nil)))))))))
(ss_seq (ss_asg (sm_new (sm_cbF (sm_cons (sm_op sm_var sm_var sr_ix) sm_nil) sf_list)) (sg_name (js := [11]) (by decide)))
(ss_seq (ss_setL (sm_op (sm_op sm_var sm_var sr_ix) sm_int sr_int) sm_var sm_var)
(ss_seq (ss_if (sm_and (sm_test (sm_op (sm_op sm_var sm_int sr_ix) sm_int sr_bl)) (sm_test (sm_op sm_var sm_var sr_ne)))
(ss_seq (ss_asg (sm_dat (sm_lc (si_list sm_var) (sg_name (js := [14]) (by decide)) (sm_test (sm_op (sm_op sm_var sm_int sr_ix) sm_var sr_eq)) sm_var)) (sg_name (js := [12]) (by decide)))
(ss_if (sm_test (sm_op sm_var (sm_dat (sm_lst sm_nil)) sr_ne))
(ss_asg (sm_new (sm_lc (si_rng1 (sm_cons sm_var sm_nil)) (sg_name (js := [15]) (by decide)) sm_yes (sm_cb (sm_cons (sm_op sm_var sm_var sr_ix) (sm_cons (sm_op (sm_op (sm_op sm_var (sm_un sm_int su_neg) sr_ix) sm_int sr_ix) sm_var sr_ix) sm_nil)) sc_max2))) (sg_name (js := [11]) (by decide)))
ss_next))
ss_next)
(ss_setL (sm_cb (sm_cons sm_var sm_nil) sc_tup) sm_var sm_var)))))))))))
(ss_ret sm_var))))
noncomputable def ml__law_changed_21 : MS :=
(mRet (mTup (mCons (mVar 3) (mCons (mCB mTupOf (mCons (mOp mIx (mVar 6) (mK (.int 0))) mNil)) (mCons (mCB mTupOf (mCons (mOp mIx (mVar 6) (mK (.int 1))) mNil)) mNil)))))
noncomputable def mc__law_changed_13 : MT :=
(mTest (mOp (mEqD false) (mOp mIx (mVar 2) (mK (.int 0))) (mK (.int 4))))
noncomputable def ml__law_changed_14 : MS :=
(mSetL (mOp mIx (mVar 2) (mK (.int 1))) (mVar 7) (mK (.int 0)))
noncomputable def mc__law_changed_15 : MT :=
(mTest (mOp (mEqD false) (mOp mIx (mVar 2) (mK (.int 0))) (mK (.int 5))))
noncomputable def ml__law_changed_16 : MS :=
(mSetL (mOp (mI fun i j => i - j) (mOp (mI fun i j => i + j) (mOp mIx (mVar 7) (mK (.int 1))) (mK (.int 1))) (mOp mIx (mVar 2) (mK (.int 1)))) (mVar 7) (mK (.int 1)))
noncomputable def mc__law_changed_17 : MT :=
(mTest (mOp (mEqD false) (mOp mIx (mVar 2) (mK (.int 0))) (mK (.int 6))))
noncomputable def ml__law_changed_18 : MS :=
(mSetL (mCB mTupOf (mCons (mDat (mLc (mItT (mOp mIx (mVar 7) (mK (.int 2)))) (mgName 8) mYes (mOp (mI fun i j => i + j) (mVar 8) (mOp mIx (mVar 2) (mK (.int 1)))) [8])) mNil)) (mVar 7) (mK (.int 2)))
noncomputable def mc__law_changed_19 : MT :=
(mTest (mOp (mEqD false) (mOp mIx (mVar 2) (mK (.int 0))) (mK (.int 7))))
noncomputable def ml__law_changed_20 : MS :=
(mSetL (mOp mIx (mDat (mLst (mCons (mK (.str "load")) (mCons (mK (.str "store")) (mCons (mK .none) mNil))))) (mOp mIx (mVar 2) (mK (.int 1)))) (mVar 7) (mK (.int 3)))
noncomputable def ml__law_changed_19 : MS :=
(mIfS mc__law_changed_19
ml__law_changed_20
mNext)
noncomputable def ml__law_changed_17 : MS :=
(mIfS mc__law_changed_17
ml__law_changed_18
ml__law_changed_19)
noncomputable def ml__law_changed_15 : MS :=
(mIfS mc__law_changed_15
ml__law_changed_16
ml__law_changed_17)
noncomputable def ml__law_changed_13 : MS :=
(mIfS mc__law_changed_13
ml__law_changed_14
ml__law_changed_15)
noncomputable def ml__law_changed_12 : MS :=
(mAsg (mOp mIx (mVar 6) (mOp mIx (mVar 2) (mK (.int 3)))) (mgName 7))
noncomputable def ml__law_changed_11 : MS :=
(mAsg (mNew (mLst (mCons (mNew (mCBF mListOf (mCons (mVar 4) mNil))) (mCons (mNew (mCBF mListOf (mCons (mVar 5) mNil))) mNil)))) (mgName 6))
noncomputable def mc__law_changed_9 : MT :=
(mTest (mOp (mEqD false) (mOp mIx (mVar 2) (mK (.int 0))) (mK (.int 3))))
noncomputable def ml__law_changed_10 : MS :=
(mRet (mOp mIx (mDat (mLst (mCons (mK .none) (mCons (mK (.int 5)) (mCons (mTup mNil) (mCons (mTup (mCons (mVar 3) (mCons (mK (.int 3)) (mCons (mVar 5) mNil)))) (mCons (mDat (mLst (mCons (mVar 3) (mCons (mVar 4) (mCons (mVar 5) mNil))))) (mCons (mTup (mCons (mVar 3) (mCons (mVar 4) (mCons (mVar 5) (mCons (mK (.int 0)) mNil))))) mNil)))))))) (mOp (mIC (fun _ j => 0 < j) fun i j => i % j) (mOp mIx (mVar 2) (mK (.int 2))) (mK (.int 6)))))
noncomputable def ml__law_changed_9 : MS :=
(mIfS mc__law_changed_9
ml__law_changed_10
mNext)
noncomputable def mc__law_changed_7 : MT :=
(mTest (mOp (mEqD false) (mOp mIx (mVar 2) (mK (.int 0))) (mK (.int 2))))
noncomputable def ml__law_changed_8 : MS :=
(mRet (mTup (mCons (mVar 3) (mCons (mVar 4) mNil))))
noncomputable def ml__law_changed_7 : MS :=
(mIfS mc__law_changed_7
ml__law_changed_8
mNext)
noncomputable def mc__law_changed_5 : MT :=
(mTest (mOp (mEqD false) (mOp mIx (mVar 2) (mK (.int 0))) (mK (.int 1))))
noncomputable def ml__law_changed_6 : MS :=
(mRet (mTup (mCons (mVar 3) (mCons (mVar 5) (mCons (mVar 4) mNil)))))
noncomputable def ml__law_changed_5 : MS :=
(mIfS mc__law_changed_5
ml__law_changed_6
mNext)
noncomputable def mc__law_changed_3 : MT :=
(mTest (mOp (mEqD false) (mOp mIx (mVar 2) (mK (.int 0))) (mK (.int 0))))
noncomputable def ml__law_changed_4 : MS :=
(mRet (mTup (mCons (mOp mIx (mVar 2) (mK (.int 2))) (mCons (mVar 4) (mCons (mVar 5) mNil)))))
noncomputable def ml__law_changed_3 : MS :=
(mIfS mc__law_changed_3
ml__law_changed_4
mNext)
noncomputable def ml__law_changed_2 : MS :=
(mAsg (mVar 0) (mgTup 3 (mgCons (mgName 3) (mgCons (mgName 4) (mgCons (mgName 5) mgNil)))))
noncomputable def ml__law_changed_1 : MS :=
(mAsg (mCB (liftD pf__law_digits) (mCons (mVar 1) (mCons (mDat (mLst (mCons (mK (.int 9)) (mCons (mK (.int 3)) (mCons (mK (.int 8)) (mCons (mK (.int 2)) mNil)))))) mNil))) (mgName 2))
noncomputable def m__law_changed : MS :=
(mSeq ml__law_changed_1
(mSeq ml__law_changed_2
(mSeq ml__law_changed_3
(mSeq ml__law_changed_5
(mSeq ml__law_changed_7
(mSeq ml__law_changed_9
(mSeq ml__law_changed_11
(mSeq ml__law_changed_12
(mSeq ml__law_changed_13
ml__law_changed_21)))))))))
noncomputable def pf__law_changed : List PyData → Option PyData := toPure 2 9 m__law_changed
noncomputable def tr__law_changed (K : PySem.W.Frag) : TS :=
(tSeq (tAsg (tCall (spQ K pf__law_digits) [] E0 (tCons (tVar 1) (tCons (tLst (tCons (tC (.int 9)) (tCons (tC (.int 3)) (tCons (tC (.int 8)) (tCons (tC (.int 2)) tNil))))) tNil))) (gName 2))
(tSeq (tAsg (tVar 0) (gTup K 3 (gCons (gName 3) (gCons (gName 4) (gCons (gName 5) gNil)))))
(tSeq (tIfS (tTest (tOp (rEqD K) (tOp (rIx K) (tVar 2) (tC (.int 0))) (tC (.int 0))))
(tRet (tTup (tCons (tOp (rIx K) (tVar 2) (tC (.int 2))) (tCons (tVar 4) (tCons (tVar 5) tNil)))))
tNext)
(tSeq (tIfS (tTest (tOp (rEqD K) (tOp (rIx K) (tVar 2) (tC (.int 0))) (tC (.int 1))))
(tRet (tTup (tCons (tVar 3) (tCons (tVar 5) (tCons (tVar 4) tNil)))))
tNext)
(tSeq (tIfS (tTest (tOp (rEqD K) (tOp (rIx K) (tVar 2) (tC (.int 0))) (tC (.int 2))))
(tRet (tTup (tCons (tVar 3) (tCons (tVar 4) tNil))))
tNext)
(tSeq (tIfS (tTest (tOp (rEqD K) (tOp (rIx K) (tVar 2) (tC (.int 0))) (tC (.int 3))))
(tRet (tOp (rIx K) (tLst (tCons (tC .non) (tCons (tC (.int 5)) (tCons (tTup tNil) (tCons (tTup (tCons (tVar 3) (tCons (tC (.int 3)) (tCons (tVar 5) tNil)))) (tCons (tLst (tCons (tVar 3) (tCons (tVar 4) (tCons (tVar 5) tNil)))) (tCons (tTup (tCons (tVar 3) (tCons (tVar 4) (tCons (tVar 5) (tCons (tC (.int 0)) tNil))))) tNil))))))) (tOp (rI (fun _ j => 0 < j) fun i j => .int (i % j)) (tOp (rIx K) (tVar 2) (tC (.int 2))) (tC (.int 6)))))
tNext)
(tSeq (tAsg (tLst (tCons (tCB (rListOf K) (tCons (tVar 4) tNil)) (tCons (tCB (rListOf K) (tCons (tVar 5) tNil)) tNil))) (gName 6))
(tSeq (tAsg (tOp (rIx K) (tVar 6) (tOp (rIx K) (tVar 2) (tC (.int 3)))) (gName 7))
(tSeq (tIfS (tTest (tOp (rEqD K) (tOp (rIx K) (tVar 2) (tC (.int 0))) (tC (.int 4))))
(tAsg (tOp (rIx K) (tVar 2) (tC (.int 1))) (gSub (tVar 7) (tC (.int 0)) rSetL))
(tIfS (tTest (tOp (rEqD K) (tOp (rIx K) (tVar 2) (tC (.int 0))) (tC (.int 5))))
(tAsg (tOp (rI0 fun i j => .int (i - j)) (tOp (rI0 fun i j => .int (i + j)) (tOp (rIx K) (tVar 7) (tC (.int 1))) (tC (.int 1))) (tOp (rIx K) (tVar 2) (tC (.int 1)))) (gSub (tVar 7) (tC (.int 1)) rSetL))
(tIfS (tTest (tOp (rEqD K) (tOp (rIx K) (tVar 2) (tC (.int 0))) (tC (.int 6))))
(tAsg (tCB (rTupOf K) (tCons (tLc (iTup K (tOp (rIx K) (tVar 7) (tC (.int 2)))) (gName 8) tYes (tOp (rI0 fun i j => .int (i + j)) (tVar 8) (tOp (rIx K) (tVar 2) (tC (.int 1)))) [8]) tNil)) (gSub (tVar 7) (tC (.int 2)) rSetL))
(tIfS (tTest (tOp (rEqD K) (tOp (rIx K) (tVar 2) (tC (.int 0))) (tC (.int 7))))
(tAsg (tOp (rIx K) (tLst (tCons (tC (.str "load")) (tCons (tC (.str "store")) (tCons (tC .non) tNil)))) (tOp (rIx K) (tVar 2) (tC (.int 1)))) (gSub (tVar 7) (tC (.int 3)) rSetL))
tNext))))
(tRet (tTup (tCons (tVar 3) (tCons (tCB (rTupOf K) (tCons (tOp (rIx K) (tVar 6) (tC (.int 0))) tNil)) (tCons (tCB (rTupOf K) (tCons (tOp (rIx K) (tVar 6) (tC (.int 1))) tNil)) tNil))))))))))))))
theorem sim__law_changed (K : PySem.W.Frag) : SimS K (tr__law_changed K) m__law_changed :=
(ss_seq (ss_asg (sm_callQ (sm_cons sm_var (sm_cons (sm_dat (sm_lst (sm_cons sm_int (sm_cons sm_int (sm_cons sm_int (sm_cons sm_int sm_nil)))))) sm_nil))) (sg_name (js := [2]) (by decide)))
(ss_seq (ss_asg sm_var (sg_tup (sg_cons (sg_name (js := [3, 4, 5]) (by decide)) (sg_cons (sg_name (js := [3, 4, 5]) (by decide)) (sg_cons (sg_name (js := [3, 4, 5]) (by decide)) sg_nil)))))
(ss_seq (ss_if (sm_test (sm_op (sm_op sm_var sm_int sr_ix) sm_int sr_eq))
(ss_ret (sm_tup (sm_cons (sm_op sm_var sm_int sr_ix) (sm_cons sm_var (sm_cons sm_var sm_nil)))))
ss_next)
(ss_seq (ss_if (sm_test (sm_op (sm_op sm_var sm_int sr_ix) sm_int sr_eq))
(ss_ret (sm_tup (sm_cons sm_var (sm_cons sm_var (sm_cons sm_var sm_nil)))))
ss_next)
(ss_seq (ss_if (sm_test (sm_op (sm_op sm_var sm_int sr_ix) sm_int sr_eq))
(ss_ret (sm_tup (sm_cons sm_var (sm_cons sm_var sm_nil))))
ss_next)
(ss_seq (ss_if (sm_test (sm_op (sm_op sm_var sm_int sr_ix) sm_int sr_eq))
(ss_ret (sm_op (sm_dat (sm_lst (sm_cons sm_non (sm_cons sm_int (sm_cons (sm_tup sm_nil) (sm_cons (sm_tup (sm_cons sm_var (sm_cons sm_int (sm_cons sm_var sm_nil)))) (sm_cons (sm_dat (sm_lst (sm_cons sm_var (sm_cons sm_var (sm_cons sm_var sm_nil))))) (sm_cons (sm_tup (sm_cons sm_var (sm_cons sm_var (sm_cons sm_var (sm_cons sm_int sm_nil))))) sm_nil)))))))) (sm_op (sm_op sm_var sm_int sr_ix) sm_int sr_intC) sr_ix))
ss_next)
(ss_seq (ss_asg (sm_new (sm_lst (sm_cons (sm_new (sm_cbF (sm_cons sm_var sm_nil) sf_list)) (sm_cons (sm_new (sm_cbF (sm_cons sm_var sm_nil) sf_list)) sm_nil)))) (sg_name (js := [6]) (by decide)))
(ss_seq (ss_asg (sm_op sm_var (sm_op sm_var sm_int sr_ix) sr_ix) (sg_name (js := [7]) (by decide)))
(ss_seq (ss_if (sm_test (sm_op (sm_op sm_var sm_int sr_ix) sm_int sr_eq))
(ss_setL (sm_op sm_var sm_int sr_ix) sm_var sm_int)
(ss_if (sm_test (sm_op (sm_op sm_var sm_int sr_ix) sm_int sr_eq))
(ss_setL (sm_op (sm_op (sm_op sm_var sm_int sr_ix) sm_int sr_int) (sm_op sm_var sm_int sr_ix) sr_int) sm_var sm_int)
(ss_if (sm_test (sm_op (sm_op sm_var sm_int sr_ix) sm_int sr_eq))
(ss_setL (sm_cb (sm_cons (sm_dat (sm_lc (si_tup (sm_op sm_var sm_int sr_ix)) (sg_name (js := [8]) (by decide)) sm_yes (sm_op sm_var (sm_op sm_var sm_int sr_ix) sr_int))) sm_nil) sc_tup) sm_var sm_int)
(ss_if (sm_test (sm_op (sm_op sm_var sm_int sr_ix) sm_int sr_eq))
(ss_setL (sm_op (sm_dat (sm_lst (sm_cons sm_str (sm_cons sm_str (sm_cons sm_non sm_nil))))) (sm_op sm_var sm_int sr_ix) sr_ix) sm_var sm_int)
ss_next))))
(ss_ret (sm_tup (sm_cons sm_var (sm_cons (sm_cb (sm_cons (sm_op sm_var sm_int sr_ix) sm_nil) sc_tup) (sm_cons (sm_cb (sm_cons (sm_op sm_var sm_int sr_ix) sm_nil) sc_tup) sm_nil))))))))))))))
noncomputable def ml__law_side_6 : MS :=
(mRet (mTup (mCons (mOp mIx (mVar 0) (mK (.int 0))) (mCons (mOp mIx (mVar 0) (mK (.int 1))) (mCons (mOp mIx (mVar 0) (mK (.int 2))) (mCons (mVar 2) mNil))))))
noncomputable def mc__law_side_2 : MT :=
(mTest (mOp (mInX false) (mVar 1) (mOp mIx (mVar 0) (mK (.int 4)))))
noncomputable def ml__law_side_3 : MS :=
(mAsg (mK (.str "store")) (mgName 2))
noncomputable def mc__law_side_4 : MT :=
(mTest (mOp (mInX false) (mVar 1) (mOp mIx (mVar 0) (mK (.int 3)))))
noncomputable def ml__law_side_5 : MS :=
(mAsg (mK (.str "load")) (mgName 2))
noncomputable def ml__law_side_4 : MS :=
(mIfS mc__law_side_4
ml__law_side_5
mNext)
noncomputable def ml__law_side_2 : MS :=
(mIfS mc__law_side_2
ml__law_side_3
ml__law_side_4)
noncomputable def ml__law_side_1 : MS :=
(mAsg (mK .none) (mgName 2))
noncomputable def m__law_side : MS :=
(mSeq ml__law_side_1
(mSeq ml__law_side_2
ml__law_side_6))
noncomputable def pf__law_side : List PyData → Option PyData := toPure 2 3 m__law_side
noncomputable def tr__law_side (K : PySem.W.Frag) : TS :=
(tSeq (tAsg (tC .non) (gName 2))
(tSeq (tIfS (tTest (tOp (rInX K false) (tVar 1) (tOp (rIx K) (tVar 0) (tC (.int 4)))))
(tAsg (tC (.str "store")) (gName 2))
(tIfS (tTest (tOp (rInX K false) (tVar 1) (tOp (rIx K) (tVar 0) (tC (.int 3)))))
(tAsg (tC (.str "load")) (gName 2))
tNext))
(tRet (tTup (tCons (tOp (rIx K) (tVar 0) (tC (.int 0))) (tCons (tOp (rIx K) (tVar 0) (tC (.int 1))) (tCons (tOp (rIx K) (tVar 0) (tC (.int 2))) (tCons (tVar 2) tNil))))))))
theorem sim__law_side (K : PySem.W.Frag) : SimS K (tr__law_side K) m__law_side :=
(ss_seq (ss_asg sm_non (sg_name (js := [2]) (by decide)))
(ss_seq (ss_if (sm_test (sm_op sm_var (sm_op sm_var sm_int sr_ix) sr_inX))
(ss_asg sm_str (sg_name (js := [2]) (by decide)))
(ss_if (sm_test (sm_op sm_var (sm_op sm_var sm_int sr_ix) sr_inX))
(ss_asg sm_str (sg_name (js := [2]) (by decide)))
ss_next))
(ss_ret (sm_tup (sm_cons (sm_op sm_var sm_int sr_ix) (sm_cons (sm_op sm_var sm_int sr_ix) (sm_cons (sm_op sm_var sm_int sr_ix) (sm_cons sm_var sm_nil))))))))
noncomputable def ml_law_22 (TP0 : Addr) : MS :=
(mRet (mK (.bool true)))
noncomputable def mc_law_20 (TP0 : Addr) : MT :=
(mTest (mOp (mIsB true) (mCB (liftD pf_is_right) (mCons (mVar 12) (mCons (mDat (mLst mNil)) mNil))) (mK (.bool false))))
noncomputable def ml_law_21 (TP0 : Addr) : MS :=
(mRet (mK (.bool false)))
noncomputable def ml_law_20 (TP0 : Addr) : MS :=
(mIfS (mc_law_20 TP0)
(ml_law_21 TP0)
mNext)
noncomputable def mb_law_19 (TP0 : Addr) : MS :=
(ml_law_20 TP0)
noncomputable def ml_law_19 (TP0 : Addr) : MS :=
(mFor (mItT (mTup (mCons (mK .none) (mCons (mK (.int 5)) (mCons (mK (.str "")) (mCons (mTup mNil) (mCons (mDat (mLst mNil)) (mCons (mTup (mCons (mK (.int 0)) (mCons (mTup mNil) (mCons (mTup mNil) mNil)))) (mCons (mTup (mCons (mK (.int 3)) (mCons (mTup (mCons (mK (.int 0)) (mCons (mK (.int 1)) (mCons (mTup (mCons (mK (.int 1)) (mCons (mK (.int 0)) mNil))) (mCons (mK (.str "store")) mNil))))) (mCons (mTup (mCons (mK (.int 1)) (mCons (mK (.int 9)) (mCons (mTup (mCons (mK (.int 9)) (mCons (mK (.int 9)) mNil))) (mCons (mK (.str "store")) mNil))))) mNil)))) mNil))))))))) (mgName 12) (mb_law_19 TP0))
noncomputable def mc_law_17 (TP0 : Addr) : MT :=
(mTest (mOp (mEqD true) (mCB (liftD pf_is_right) (mCons (mVar 11) (mCons (mVar 4) mNil))) (mOp (mInD false) (mVar 11) (mVar 5))))
noncomputable def ml_law_18 (TP0 : Addr) : MS :=
(mRet (mK (.bool false)))
noncomputable def ml_law_17 (TP0 : Addr) : MS :=
(mIfS (mc_law_17 TP0)
(ml_law_18 TP0)
mNext)
noncomputable def ml_law_16 (TP0 : Addr) : MS :=
(mAsg (mTup (mCons (mOp mIx (mVar 8) (mK (.int 2))) (mCons (mCB (liftD pf__law_side) (mCons (mVar 9) (mCons (mOp mIx (mVar 8) (mK (.int 2))) mNil))) (mCons (mCB (liftD pf__law_side) (mCons (mVar 10) (mCons (mOp mIx (mVar 8) (mK (.int 2))) mNil))) mNil)))) (mgName 11))
noncomputable def ml_law_15 (TP0 : Addr) : MS :=
(mAsg (mOp mIx (mVar 4) (mOp mIx (mVar 8) (mK (.int 1)))) (mgName 10))
noncomputable def ml_law_14 (TP0 : Addr) : MS :=
(mAsg (mOp mIx (mVar 4) (mOp mIx (mVar 8) (mK (.int 0)))) (mgName 9))
noncomputable def ml_law_13 (TP0 : Addr) : MS :=
(mAsg (mCB (liftD pf__law_digits) (mCons (mOp (mI fun i j => i + j) (mCB (liftD pf__law_cell) (mCons (mVar 0) (mCons (mVar 3) mNil))) (mOp (mIC (fun i j => CMul i j ∨ CMulW i j) fun i j => i * j) (mK (.int 29)) (mVar 3))) (mCons (mDat (mLst (mCons (mCB mLen (mCons (mVar 4) mNil)) (mCons (mCB mLen (mCons (mVar 4) mNil)) (mCons (mK (.int 8)) mNil))))) mNil))) (mgName 8))
noncomputable def mb_law_12 (TP0 : Addr) : MS :=
(mSeq (ml_law_13 TP0)
(mSeq (ml_law_14 TP0)
(mSeq (ml_law_15 TP0)
(mSeq (ml_law_16 TP0)
(ml_law_17 TP0)))))
noncomputable def ml_law_12 (TP0 : Addr) : MS :=
(mFor (mRng1 (mCons (mOp (mIC (fun i j => CMul i j ∨ CMulW i j) fun i j => i * j) (mK (.int 3)) (mCB mLen (mCons (mVar 4) mNil))) mNil)) (mgName 3) (mb_law_12 TP0))
noncomputable def mc_law_10 (TP0 : Addr) : MT :=
(mOr (mNot (mTest (mIsi "bool" (mVar 7)))) (mTest (mOp (mEqD true) (mVar 7) (mOp (mInD false) (mVar 6) (mVar 5)))))
noncomputable def ml_law_11 (TP0 : Addr) : MS :=
(mRet (mK (.bool false)))
noncomputable def ml_law_10 (TP0 : Addr) : MS :=
(mIfS (mc_law_10 TP0)
(ml_law_11 TP0)
mNext)
noncomputable def ml_law_9 (TP0 : Addr) : MS :=
(mAsg (mCB (liftD pf_is_right) (mCons (mVar 6) (mCons (mVar 4) mNil))) (mgName 7))
noncomputable def ml_law_8 (TP0 : Addr) : MS :=
(mAsg (mCB (liftD pf__law_changed) (mCons (mOp mIx (mVar 5) (mVar 3)) (mCons (mOp (mI fun i j => i + j) (mCB (liftD pf__law_cell) (mCons (mVar 0) (mCons (mVar 3) mNil))) (mOp (mIC (fun i j => CMul i j ∨ CMulW i j) fun i j => i * j) (mK (.int 13)) (mVar 3))) mNil))) (mgName 6))
noncomputable def mc_law_6 (TP0 : Addr) : MT :=
(mTest (mOp (mIsB true) (mCB (liftD pf_is_right) (mCons (mOp mIx (mVar 5) (mVar 3)) (mCons (mVar 4) mNil))) (mK (.bool true))))
noncomputable def ml_law_7 (TP0 : Addr) : MS :=
(mRet (mK (.bool false)))
noncomputable def ml_law_6 (TP0 : Addr) : MS :=
(mIfS (mc_law_6 TP0)
(ml_law_7 TP0)
mNext)
noncomputable def mb_law_5 (TP0 : Addr) : MS :=
(mSeq (ml_law_6 TP0)
(mSeq (ml_law_8 TP0)
(mSeq (ml_law_9 TP0)
(ml_law_10 TP0))))
noncomputable def ml_law_5 (TP0 : Addr) : MS :=
(mFor (mRng1 (mCons (mCB mLen (mCons (mVar 5) mNil)) mNil)) (mgName 3) (mb_law_5 TP0))
noncomputable def ml_law_4 (TP0 : Addr) : MS :=
(mAsg (mCB (fn_report TP0) (mCons (mVar 4) mNil)) (mgName 5))
noncomputable def ml_law_3 (TP0 : Addr) : MS :=
(mAsg (mDat (mLc (mItL (mCB (liftD pf__law_run) (mCons (mVar 2) (mCons (mVar 1) mNil)))) (mgName 13) mYes (mCB (liftD pf_make_record) (mCons (mOp mIx (mVar 13) (mK (.int 0))) (mCons (mOp mIx (mVar 13) (mK (.int 1))) (mCons (mOp mIx (mVar 13) (mK (.int 2))) (mCons (mOp mIx (mVar 13) (mK (.int 3))) (mCons (mOp mIx (mVar 13) (mK (.int 4))) mNil)))))) [13])) (mgName 4))
noncomputable def ml_law_2 (TP0 : Addr) : MS :=
(mAsg (mDat (mLc (mRng1 (mCons (mCB (liftD fMin2) (mCons (mCB mLen (mCons (mVar 0) mNil)) (mCons (mCB (liftD pf__law_many) (mCons (mVar 0) (mCons (mK (.int 8)) (mCons (mK (.int 14)) mNil)))) mNil))) mNil)) (mgName 3) mYes (mCB (liftD pf__law_cell) (mCons (mVar 0) (mCons (mVar 3) mNil))) [3])) (mgName 2))
noncomputable def ml_law_1 (TP0 : Addr) : MS :=
(mAsg (mOp (mI fun i j => i + j) (mK (.int 2)) (mOp (mIC (fun _ j => 0 < j) fun i j => i % j) (mCB (liftD fInt1) (mCons (mCB (liftD pf__law_cell) (mCons (mVar 0) (mCons (mK (.int 0)) mNil))) mNil)) (mK (.int 3)))) (mgName 1))
noncomputable def m_law (TP0 : Addr) : MS :=
(mSeq (ml_law_1 TP0)
(mSeq (ml_law_2 TP0)
(mSeq (ml_law_3 TP0)
(mSeq (ml_law_4 TP0)
(mSeq (ml_law_5 TP0)
(mSeq (ml_law_12 TP0)
(mSeq (ml_law_19 TP0)
(ml_law_22 TP0))))))))
noncomputable def fn_law (TP0 : Addr) : MCa := toHeap 1 14 (m_law TP0)
noncomputable def tr_law (K : PySem.W.Frag) (TP0 : Addr) : TS :=
(tSeq (tAsg (tOp (rI0 fun i j => .int (i + j)) (tC (.int 2)) (tOp (rI (fun _ j => 0 < j) fun i j => .int (i % j)) (tCB rInt1 (tCons (tCall (spQ K pf__law_cell) [] E0 (tCons (tVar 0) (tCons (tC (.int 0)) tNil))) tNil)) (tC (.int 3)))) (gName 1))
(tSeq (tAsg (tLc (iRng1 (tCons (tCB rMin2 (tCons (tCB (G.rLen K) (tCons (tVar 0) tNil)) (tCons (tCall (spQ K pf__law_many) [] E0 (tCons (tVar 0) (tCons (tC (.int 8)) (tCons (tC (.int 14)) tNil)))) tNil))) tNil)) (gName 3) tYes (tCall (spQ K pf__law_cell) [] E0 (tCons (tVar 0) (tCons (tVar 3) tNil))) [3]) (gName 2))
(tSeq (tAsg (tLc (iList K (tCall (spQ K pf__law_run) [] E0 (tCons (tVar 2) (tCons (tVar 1) tNil)))) (gName 13) tYes (tCall (spQ K pf_make_record) [] E0 (tCons (tOp (rIx K) (tVar 13) (tC (.int 0))) (tCons (tOp (rIx K) (tVar 13) (tC (.int 1))) (tCons (tOp (rIx K) (tVar 13) (tC (.int 2))) (tCons (tOp (rIx K) (tVar 13) (tC (.int 3))) (tCons (tOp (rIx K) (tVar 13) (tC (.int 4))) tNil)))))) [13]) (gName 4))
(tSeq (tAsg (tCall (spH K (fn_report TP0)) [] E0 (tCons (tVar 4) tNil)) (gName 5))
(tSeq (tFor (iRng1 (tCons (tCB (G.rLen K) (tCons (tVar 5) tNil)) tNil)) (gName 3)
(tSeq (tIfS (tTest (tOp rNotB (tCall (spQ K pf_is_right) [] E0 (tCons (tOp (rIx K) (tVar 5) (tVar 3)) (tCons (tVar 4) tNil))) (tC (.bl true))))
(tRet (tC (.bl false)))
tNext)
(tSeq (tAsg (tCall (spQ K pf__law_changed) [] E0 (tCons (tOp (rIx K) (tVar 5) (tVar 3)) (tCons (tOp (rI0 fun i j => .int (i + j)) (tCall (spQ K pf__law_cell) [] E0 (tCons (tVar 0) (tCons (tVar 3) tNil))) (tOp (rI (fun i j => CMul i j ∨ CMulW i j) fun i j => .int (i * j)) (tC (.int 13)) (tVar 3))) tNil))) (gName 6))
(tSeq (tAsg (tCall (spQ K pf_is_right) [] E0 (tCons (tVar 6) (tCons (tVar 4) tNil))) (gName 7))
(tIfS (tOr (tNot (tB (G.tIsi K (tVar 7) "bool"))) (tTest (tOp (rNeD K) (tVar 7) (tOp (rInD K) (tVar 6) (tVar 5)))))
(tRet (tC (.bl false)))
tNext)))))
(tSeq (tFor (iRng1 (tCons (tOp (rI (fun i j => CMul i j ∨ CMulW i j) fun i j => .int (i * j)) (tC (.int 3)) (tCB (G.rLen K) (tCons (tVar 4) tNil))) tNil)) (gName 3)
(tSeq (tAsg (tCall (spQ K pf__law_digits) [] E0 (tCons (tOp (rI0 fun i j => .int (i + j)) (tCall (spQ K pf__law_cell) [] E0 (tCons (tVar 0) (tCons (tVar 3) tNil))) (tOp (rI (fun i j => CMul i j ∨ CMulW i j) fun i j => .int (i * j)) (tC (.int 29)) (tVar 3))) (tCons (tLst (tCons (tCB (G.rLen K) (tCons (tVar 4) tNil)) (tCons (tCB (G.rLen K) (tCons (tVar 4) tNil)) (tCons (tC (.int 8)) tNil)))) tNil))) (gName 8))
(tSeq (tAsg (tOp (rIx K) (tVar 4) (tOp (rIx K) (tVar 8) (tC (.int 0)))) (gName 9))
(tSeq (tAsg (tOp (rIx K) (tVar 4) (tOp (rIx K) (tVar 8) (tC (.int 1)))) (gName 10))
(tSeq (tAsg (tTup (tCons (tOp (rIx K) (tVar 8) (tC (.int 2))) (tCons (tCall (spQ K pf__law_side) [] E0 (tCons (tVar 9) (tCons (tOp (rIx K) (tVar 8) (tC (.int 2))) tNil))) (tCons (tCall (spQ K pf__law_side) [] E0 (tCons (tVar 10) (tCons (tOp (rIx K) (tVar 8) (tC (.int 2))) tNil))) tNil)))) (gName 11))
(tIfS (tTest (tOp (rNeD K) (tCall (spQ K pf_is_right) [] E0 (tCons (tVar 11) (tCons (tVar 4) tNil))) (tOp (rInD K) (tVar 11) (tVar 5))))
(tRet (tC (.bl false)))
tNext))))))
(tSeq (tFor (iTup K (tTup (tCons (tC .non) (tCons (tC (.int 5)) (tCons (tC (.str "")) (tCons (tTup tNil) (tCons (tLst tNil) (tCons (tTup (tCons (tC (.int 0)) (tCons (tTup tNil) (tCons (tTup tNil) tNil)))) (tCons (tTup (tCons (tC (.int 3)) (tCons (tTup (tCons (tC (.int 0)) (tCons (tC (.int 1)) (tCons (tTup (tCons (tC (.int 1)) (tCons (tC (.int 0)) tNil))) (tCons (tC (.str "store")) tNil))))) (tCons (tTup (tCons (tC (.int 1)) (tCons (tC (.int 9)) (tCons (tTup (tCons (tC (.int 9)) (tCons (tC (.int 9)) tNil))) (tCons (tC (.str "store")) tNil))))) tNil)))) tNil))))))))) (gName 12)
(tIfS (tTest (tOp rNotB (tCall (spQ K pf_is_right) [] E0 (tCons (tVar 12) (tCons (tLst tNil) tNil))) (tC (.bl false))))
(tRet (tC (.bl false)))
tNext))
(tRet (tC (.bl true))))))))))
theorem sim_law (K : PySem.W.Frag) (TP0 : Addr) : SimS K (tr_law K TP0) (m_law TP0) :=
(ss_seq (ss_asg (sm_op sm_int (sm_op (sm_cb (sm_cons (sm_callQ (sm_cons sm_var (sm_cons sm_int sm_nil))) sm_nil) sc_int1) sm_int sr_intC) sr_int) (sg_name (js := [1]) (by decide)))
(ss_seq (ss_asg (sm_dat (sm_lc (si_rng1 (sm_cons (sm_cb (sm_cons (sm_cb (sm_cons sm_var sm_nil) sc_len) (sm_cons (sm_callQ (sm_cons sm_var (sm_cons sm_int (sm_cons sm_int sm_nil)))) sm_nil)) sc_min2) sm_nil)) (sg_name (js := [3]) (by decide)) sm_yes (sm_callQ (sm_cons sm_var (sm_cons sm_var sm_nil))))) (sg_name (js := [2]) (by decide)))
(ss_seq (ss_asg (sm_dat (sm_lc (si_list (sm_callQ (sm_cons sm_var (sm_cons sm_var sm_nil)))) (sg_name (js := [13]) (by decide)) sm_yes (sm_callQ (sm_cons (sm_op sm_var sm_int sr_ix) (sm_cons (sm_op sm_var sm_int sr_ix) (sm_cons (sm_op sm_var sm_int sr_ix) (sm_cons (sm_op sm_var sm_int sr_ix) (sm_cons (sm_op sm_var sm_int sr_ix) sm_nil)))))))) (sg_name (js := [4]) (by decide)))
(ss_seq (ss_asg (sm_callH (sm_cons sm_var sm_nil)) (sg_name (js := [5]) (by decide)))
(ss_seq (ss_for (si_rng1 (sm_cons (sm_cb (sm_cons sm_var sm_nil) sc_len) sm_nil)) (sg_name (js := [3]) (by decide))
(ss_seq (ss_if (sm_test (sm_op (sm_callQ (sm_cons (sm_op sm_var sm_var sr_ix) (sm_cons sm_var sm_nil))) sm_bl sr_notB))
(ss_ret sm_bl)
ss_next)
(ss_seq (ss_asg (sm_callQ (sm_cons (sm_op sm_var sm_var sr_ix) (sm_cons (sm_op (sm_callQ (sm_cons sm_var (sm_cons sm_var sm_nil))) (sm_op sm_int sm_var sr_intC) sr_int) sm_nil))) (sg_name (js := [6]) (by decide)))
(ss_seq (ss_asg (sm_callQ (sm_cons sm_var (sm_cons sm_var sm_nil))) (sg_name (js := [7]) (by decide)))
(ss_if (sm_or (sm_not (sm_B (sm_isi sm_var))) (sm_test (sm_op sm_var (sm_op sm_var sm_var sr_in) sr_ne)))
(ss_ret sm_bl)
ss_next)))))
(ss_seq (ss_for (si_rng1 (sm_cons (sm_op sm_int (sm_cb (sm_cons sm_var sm_nil) sc_len) sr_intC) sm_nil)) (sg_name (js := [3]) (by decide))
(ss_seq (ss_asg (sm_callQ (sm_cons (sm_op (sm_callQ (sm_cons sm_var (sm_cons sm_var sm_nil))) (sm_op sm_int sm_var sr_intC) sr_int) (sm_cons (sm_dat (sm_lst (sm_cons (sm_cb (sm_cons sm_var sm_nil) sc_len) (sm_cons (sm_cb (sm_cons sm_var sm_nil) sc_len) (sm_cons sm_int sm_nil))))) sm_nil))) (sg_name (js := [8]) (by decide)))
(ss_seq (ss_asg (sm_op sm_var (sm_op sm_var sm_int sr_ix) sr_ix) (sg_name (js := [9]) (by decide)))
(ss_seq (ss_asg (sm_op sm_var (sm_op sm_var sm_int sr_ix) sr_ix) (sg_name (js := [10]) (by decide)))
(ss_seq (ss_asg (sm_tup (sm_cons (sm_op sm_var sm_int sr_ix) (sm_cons (sm_callQ (sm_cons sm_var (sm_cons (sm_op sm_var sm_int sr_ix) sm_nil))) (sm_cons (sm_callQ (sm_cons sm_var (sm_cons (sm_op sm_var sm_int sr_ix) sm_nil))) sm_nil)))) (sg_name (js := [11]) (by decide)))
(ss_if (sm_test (sm_op (sm_callQ (sm_cons sm_var (sm_cons sm_var sm_nil))) (sm_op sm_var sm_var sr_in) sr_ne))
(ss_ret sm_bl)
ss_next))))))
(ss_seq (ss_for (si_tup (sm_tup (sm_cons sm_non (sm_cons sm_int (sm_cons sm_str (sm_cons (sm_tup sm_nil) (sm_cons (sm_dat (sm_lst sm_nil)) (sm_cons (sm_tup (sm_cons sm_int (sm_cons (sm_tup sm_nil) (sm_cons (sm_tup sm_nil) sm_nil)))) (sm_cons (sm_tup (sm_cons sm_int (sm_cons (sm_tup (sm_cons sm_int (sm_cons sm_int (sm_cons (sm_tup (sm_cons sm_int (sm_cons sm_int sm_nil))) (sm_cons sm_str sm_nil))))) (sm_cons (sm_tup (sm_cons sm_int (sm_cons sm_int (sm_cons (sm_tup (sm_cons sm_int (sm_cons sm_int sm_nil))) (sm_cons sm_str sm_nil))))) sm_nil)))) sm_nil))))))))) (sg_name (js := [12]) (by decide))
(ss_if (sm_test (sm_op (sm_callQ (sm_cons sm_var (sm_cons (sm_dat (sm_lst sm_nil)) sm_nil))) sm_bl sr_notB))
(ss_ret sm_bl)
ss_next))
(ss_ret sm_bl))))))))
/-! ### what the top has left -/
structure Fx (K : PySem.W.Frag) (mg : Str → Option Value) where
  a_covers : Addr
  d_covers : FuncData
  F_covers : Fun K "covers" "covers" s_covers a_covers d_covers
  b_covers : Binds K d_covers ["clock", "machine", "number"] []
  g_covers : mg "covers" = some (.ref a_covers)
  a_each_once : Addr
  d_each_once : FuncData
  F_each_once : Fun K "each_once" "each_once" s_each_once a_each_once d_each_once
  b_each_once : Binds K d_each_once ["words"] []
  g_each_once : mg "each_once" = some (.ref a_each_once)
  a_make_record : Addr
  d_make_record : FuncData
  F_make_record : Fun K "make_record" "make_record" s_make_record a_make_record d_make_record
  b_make_record : Binds K d_make_record ["machine", "number", "clock", "loads", "stores"] []
  g_make_record : mg "make_record" = some (.ref a_make_record)
  a_is_same : Addr
  d_is_same : FuncData
  F_is_same : Fun K "is_same" "is_same" s_is_same a_is_same d_is_same
  b_is_same : Binds K d_is_same ["one", "other"] []
  g_is_same : mg "is_same" = some (.ref a_is_same)
  a_is_covered : Addr
  d_is_covered : FuncData
  F_is_covered : Fun K "is_covered" "is_covered" s_is_covered a_is_covered d_is_covered
  b_is_covered : Binds K d_is_covered ["record", "clock"] []
  g_is_covered : mg "is_covered" = some (.ref a_is_covered)
  a_is_before : Addr
  d_is_before : FuncData
  F_is_before : Fun K "is_before" "is_before" s_is_before a_is_before d_is_before
  b_is_before : Binds K d_is_before ["one", "other"] []
  g_is_before : mg "is_before" = some (.ref a_is_before)
  a_are_unordered : Addr
  d_are_unordered : FuncData
  F_are_unordered : Fun K "are_unordered" "are_unordered" s_are_unordered a_are_unordered d_are_unordered
  b_are_unordered : Binds K d_are_unordered ["one", "other"] []
  g_are_unordered : mg "are_unordered" = some (.ref a_are_unordered)
  a_ascending : Addr
  d_ascending : FuncData
  F_ascending : Fun K "ascending" "ascending" s_ascending a_ascending d_ascending
  b_ascending : Binds K d_ascending ["records"] []
  g_ascending : mg "ascending" = some (.ref a_ascending)
  a_is_whole : Addr
  d_is_whole : FuncData
  F_is_whole : Fun K "is_whole" "is_whole" s_is_whole a_is_whole d_is_whole
  b_is_whole : Binds K d_is_whole ["value"] []
  g_is_whole : mg "is_whole" = some (.ref a_is_whole)
  a_kind_of : Addr
  d_kind_of : FuncData
  F_kind_of : Fun K "kind_of" "kind_of" s_kind_of a_kind_of d_kind_of
  b_kind_of : Binds K d_kind_of ["record", "word"] []
  g_kind_of : mg "kind_of" = some (.ref a_kind_of)
  a_sides_of : Addr
  d_sides_of : FuncData
  F_sides_of : Fun K "sides_of" "sides_of" s_sides_of a_sides_of d_sides_of
  b_sides_of : Binds K d_sides_of ["records"] []
  g_sides_of : mg "sides_of" = some (.ref a_sides_of)
  a_do_race : Addr
  d_do_race : FuncData
  F_do_race : Fun K "do_race" "do_race" s_do_race a_do_race d_do_race
  b_do_race : Binds K d_do_race ["one", "other"] []
  g_do_race : mg "do_race" = some (.ref a_do_race)
  a_papers_of : Addr
  d_papers_of : FuncData
  F_papers_of : Fun K "papers_of" "papers_of" s_papers_of a_papers_of d_papers_of
  b_papers_of : Binds K d_papers_of ["word", "sides"] []
  g_papers_of : mg "papers_of" = some (.ref a_papers_of)
  a_report : Addr
  d_report : FuncData
  F_report : Fun K "report" "report" s_report a_report d_report
  b_report : Binds K d_report ["records"] []
  g_report : mg "report" = some (.ref a_report)
  a_is_clock : Addr
  d_is_clock : FuncData
  F_is_clock : Fun K "is_clock" "is_clock" s_is_clock a_is_clock d_is_clock
  b_is_clock : Binds K d_is_clock ["value"] []
  g_is_clock : mg "is_clock" = some (.ref a_is_clock)
  a_is_side : Addr
  d_is_side : FuncData
  F_is_side : Fun K "is_side" "is_side" s_is_side a_is_side d_is_side
  b_is_side : Binds K d_is_side ["value"] []
  g_is_side : mg "is_side" = some (.ref a_is_side)
  a_is_paper : Addr
  d_is_paper : FuncData
  F_is_paper : Fun K "is_paper" "is_paper" s_is_paper a_is_paper d_is_paper
  b_is_paper : Binds K d_is_paper ["value"] []
  g_is_paper : mg "is_paper" = some (.ref a_is_paper)
  a_is_told : Addr
  d_is_told : FuncData
  F_is_told : Fun K "is_told" "is_told" s_is_told a_is_told d_is_told
  b_is_told : Binds K d_is_told ["side", "word", "records"] []
  g_is_told : mg "is_told" = some (.ref a_is_told)
  a_is_right : Addr
  d_is_right : FuncData
  F_is_right : Fun K "is_right" "is_right" s_is_right a_is_right d_is_right
  b_is_right : Binds K d_is_right ["paper", "records"] []
  g_is_right : mg "is_right" = some (.ref a_is_right)
  a__law_cell : Addr
  d__law_cell : FuncData
  F__law_cell : Fun K "_law_cell" "_law_cell" s__law_cell a__law_cell d__law_cell
  b__law_cell : Binds K d__law_cell ["script", "k"] []
  g__law_cell : mg "_law_cell" = some (.ref a__law_cell)
  a__law_digits : Addr
  d__law_digits : FuncData
  F__law_digits : Fun K "_law_digits" "_law_digits" s__law_digits a__law_digits d__law_digits
  b__law_digits : Binds K d__law_digits ["cell", "bases"] []
  g__law_digits : mg "_law_digits" = some (.ref a__law_digits)
  a__law_many : Addr
  d__law_many : FuncData
  F__law_many : Fun K "_law_many" "_law_many" s__law_many a__law_many d__law_many
  b__law_many : Binds K d__law_many ["script", "few", "many"] []
  g__law_many : mg "_law_many" = some (.ref a__law_many)
  a__law_run : Addr
  d__law_run : FuncData
  F__law_run : Fun K "_law_run" "_law_run" s__law_run a__law_run d__law_run
  b__law_run : Binds K d__law_run ["cells", "machines"] []
  g__law_run : mg "_law_run" = some (.ref a__law_run)
  a__law_changed : Addr
  d__law_changed : FuncData
  F__law_changed : Fun K "_law_changed" "_law_changed" s__law_changed a__law_changed d__law_changed
  b__law_changed : Binds K d__law_changed ["paper", "cell"] []
  g__law_changed : mg "_law_changed" = some (.ref a__law_changed)
  a__law_side : Addr
  d__law_side : FuncData
  F__law_side : Fun K "_law_side" "_law_side" s__law_side a__law_side d__law_side
  b__law_side : Binds K d__law_side ["record", "word"] []
  g__law_side : mg "_law_side" = some (.ref a__law_side)
  a_law : Addr
  d_law : FuncData
  F_law : Fun K "law" "law" s_law a_law d_law
  b_law : Binds K d_law ["script"] []
  g_law : mg "law" = some (.ref a_law)
  m_all : mg "all" = none
  m_any : mg "any" = none
  m_bool : mg "bool" = none
  m_int : mg "int" = none
  m_isinstance : mg "isinstance" = none
  m_len : mg "len" = none
  m_list : mg "list" = none
  m_max : mg "max" = none
  m_min : mg "min" = none
  m_range : mg "range" = none
  m_set : mg "set" = none
  m_sorted : mg "sorted" = none
  m_str : mg "str" = none
  m_tuple : mg "tuple" = none
  i_combinations : mg "combinations" = some (.type "itertools.combinations")
  tc0 : Addr
  tp0 : Addr
  hc0 : d_ascending.code = .ref tc0
section
variable {P : Program} {w : World} {K : PySem.W.Frag} {mg : Str → Option Value} {base : Heap}
theorem ps_covers (Z : Fx K mg)   {cdv : Value} {A : Around} {outer : List PySem.Env} {s : Shared} {H : Hp} {E : XK} (hr : Room 0 (A.deeper (envOfC "covers" (defScope s_covers) s.heap.objs.size Z.a_covers cdv))) :
    PSs (cxOf CX0 P w K mg base N_covers "covers" (defScope s_covers) Z.a_covers cdv A outer s H E).nox (defBody s_covers) (tr_covers K) :=
  (pss_one (ps_ret (pe_cmpR op_ge (pe_ix ix_seq (pv 0) (pv 1) (fun _ _ => rfl)) (pv 2) (nomark _))))
theorem ps_each_once (Z : Fx K mg)   {cdv : Value} {A : Around} {outer : List PySem.Env} {s : Shared} {H : Hp} {E : XK} (hr : Room 0 (A.deeper (envOfC "each_once" (defScope s_each_once) s.heap.objs.size Z.a_each_once cdv))) :
    PSs (cxOf CX0 P w K mg base N_each_once "each_once" (defScope s_each_once) Z.a_each_once cdv A outer s H E).nox (defBody s_each_once) (tr_each_once K) :=
  (pss_one (ps_ret (pe_callTy cr_tup (by rfl) Z.m_tuple (by decide +kernel) (pa_cons (pe_soSetX rfl (by rfl) Z.m_sorted (by rfl) Z.m_set (pa_cons (pv 0) pa_nil)) pa_nil))))
theorem ps_make_record (Z : Fx K mg)  (G_each_once : FnOk P w K mg base CX0 1 Z.a_each_once Z.d_each_once ["words"] (spQ K pf_each_once)) {cdv : Value} {A : Around} {outer : List PySem.Env} {s : Shared} {H : Hp} {E : XK} (hr : Room 1 (A.deeper (envOfC "make_record" (defScope s_make_record) s.heap.objs.size Z.a_make_record cdv))) :
    PSs (cxOf CX0 P w K mg base N_make_record "make_record" (defScope s_make_record) Z.a_make_record cdv A outer s H E).nox (defBody s_make_record) (tr_make_record K) :=
  (pss_one (ps_ret (pe_tup (pa_cons (pv 0) (pa_cons (pv 1) (pa_cons (pv 2) (pa_cons (pe_call (G_each_once) (hr.mono (by decide)) (by rfl) Z.g_each_once Z.F_each_once.kp Z.b_each_once .nil pass0 (pa_cons (pv 3) pa_nil)) (pa_cons (pe_call (G_each_once) (hr.mono (by decide)) (by rfl) Z.g_each_once Z.F_each_once.kp Z.b_each_once .nil pass0 (pa_cons (pv 4) pa_nil)) pa_nil))))))))
theorem ps_is_same (Z : Fx K mg)   {cdv : Value} {A : Around} {outer : List PySem.Env} {s : Shared} {H : Hp} {E : XK} (hr : Room 0 (A.deeper (envOfC "is_same" (defScope s_is_same) s.heap.objs.size Z.a_is_same cdv))) :
    PSs (cxOf CX0 P w K mg base N_is_same "is_same" (defScope s_is_same) Z.a_is_same cdv A outer s H E).nox (defBody s_is_same) (tr_is_same K) :=
  (pss_one (ps_ret (pe_and (pe_cmpR (op_eqD hr.units) (pe_ix ix_seq (pv 0) pe_int (fun _ _ => rfl)) (pe_ix ix_seq (pv 1) pe_int (fun _ _ => rfl)) (nomark _)) (pe_one (pe_cmpR (op_eqD hr.units) (pe_ix ix_seq (pv 0) pe_int (fun _ _ => rfl)) (pe_ix ix_seq (pv 1) pe_int (fun _ _ => rfl)) (nomark _))))))
theorem ps_is_covered (Z : Fx K mg)  (G_covers : FnOk P w K mg base CX0 1 Z.a_covers Z.d_covers ["clock", "machine", "number"] (spQ K pf_covers)) {cdv : Value} {A : Around} {outer : List PySem.Env} {s : Shared} {H : Hp} {E : XK} (hr : Room 1 (A.deeper (envOfC "is_covered" (defScope s_is_covered) s.heap.objs.size Z.a_is_covered cdv))) :
    PSs (cxOf CX0 P w K mg base N_is_covered "is_covered" (defScope s_is_covered) Z.a_is_covered cdv A outer s H E).nox (defBody s_is_covered) (tr_is_covered K) :=
  (pss_one (ps_ret (pe_call (G_covers) (hr.mono (by decide)) (by rfl) Z.g_covers Z.F_covers.kp Z.b_covers .nil pass0 (pa_cons (pv 1) (pa_cons (pe_ix ix_seq (pv 0) pe_int (fun _ _ => rfl)) (pa_cons (pe_ix ix_seq (pv 0) pe_int (fun _ _ => rfl)) pa_nil))))))
theorem ps_is_before (Z : Fx K mg)  (G_is_covered : FnOk P w K mg base CX0 2 Z.a_is_covered Z.d_is_covered ["record", "clock"] (spQ K pf_is_covered)) (G_is_same : FnOk P w K mg base CX0 1 Z.a_is_same Z.d_is_same ["one", "other"] (spQ K pf_is_same)) {cdv : Value} {A : Around} {outer : List PySem.Env} {s : Shared} {H : Hp} {E : XK} (hr : Room 2 (A.deeper (envOfC "is_before" (defScope s_is_before) s.heap.objs.size Z.a_is_before cdv))) :
    PSs (cxOf CX0 P w K mg base N_is_before "is_before" (defScope s_is_before) Z.a_is_before cdv A outer s H E).nox (defBody s_is_before) (tr_is_before K) :=
  (pss_one (ps_ret (pe_and (pe_call (G_is_covered) (hr.mono (by decide)) (by rfl) Z.g_is_covered Z.F_is_covered.kp Z.b_is_covered .nil pass0 (pa_cons (pv 0) (pa_cons (pe_ix ix_seq (pv 1) pe_int (fun _ _ => rfl)) pa_nil))) (pe_one (pe_not (pe_call (G_is_same) (hr.mono (by decide)) (by rfl) Z.g_is_same Z.F_is_same.kp Z.b_is_same .nil pass0 (pa_cons (pv 0) (pa_cons (pv 1) pa_nil))))))))
theorem ps_are_unordered (Z : Fx K mg)  (G_is_before : FnOk P w K mg base CX0 3 Z.a_is_before Z.d_is_before ["one", "other"] (spQ K pf_is_before)) {cdv : Value} {A : Around} {outer : List PySem.Env} {s : Shared} {H : Hp} {E : XK} (hr : Room 3 (A.deeper (envOfC "are_unordered" (defScope s_are_unordered) s.heap.objs.size Z.a_are_unordered cdv))) :
    PSs (cxOf CX0 P w K mg base N_are_unordered "are_unordered" (defScope s_are_unordered) Z.a_are_unordered cdv A outer s H E).nox (defBody s_are_unordered) (tr_are_unordered K) :=
  (pss_cons (ps_if (pt_cmpR (op_eqD hr.units) (pe_ix ix_seq (pv 0) pe_int (fun _ _ => rfl)) (pe_ix ix_seq (pv 1) pe_int (fun _ _ => rfl)) (nomark _))
(pss_one (ps_ret pe_bl))
pss_nil)
(pss_one (ps_ret (pe_and (pe_not (pe_call (G_is_before) (hr.mono (by decide)) (by rfl) Z.g_is_before Z.F_is_before.kp Z.b_is_before .nil pass0 (pa_cons (pv 0) (pa_cons (pv 1) pa_nil)))) (pe_one (pe_not (pe_call (G_is_before) (hr.mono (by decide)) (by rfl) Z.g_is_before Z.F_is_before.kp Z.b_is_before .nil pass0 (pa_cons (pv 1) (pa_cons (pv 0) pa_nil)))))))))
theorem ps_ascending (Z : Fx K mg) (TB0 : LamX.TabB base mg Z.tc0 Z.tp0)  {A : Around} {outer : List PySem.Env} {s : Shared} {H : Hp} {E : XK} (hr : Room 0 (A.deeper (envOfC "ascending" (defScope s_ascending) s.heap.objs.size Z.a_ascending Z.d_ascending.code))) :
    PSs (cxOf CX0 P w K mg base N_ascending "ascending" (defScope s_ascending) Z.a_ascending Z.d_ascending.code A outer s H E).nox (defBody s_ascending) (tr_ascending K Z.tp0) :=
  (pss_one (ps_ret (pe_sortLam (lam := lam_ascending) (x := "record") (g := gl_ascending) hr TB0 Z.hc0 rfl rfl (by decide +kernel) ⟨rfl, rfl, rfl, rfl, by decide +kernel⟩ (kb_tup (kbs_cons (kb_ix (j := 0) (kb_name rfl rfl) (by decide) (fun _ _ => rfl)) (kbs_cons (kb_ix (j := 1) (kb_name rfl rfl) (by decide) (fun _ _ => rfl)) kbs_nil)) (len_le (len_cons (len_cons len_nil)) (by decide))) (fun _ _ _ _ => rfl) (by rfl) Z.m_sorted (pv 0))))
theorem ps_is_whole (Z : Fx K mg)   {cdv : Value} {A : Around} {outer : List PySem.Env} {s : Shared} {H : Hp} {E : XK} (hr : Room 0 (A.deeper (envOfC "is_whole" (defScope s_is_whole) s.heap.objs.size Z.a_is_whole cdv))) :
    PSs (cxOf CX0 P w K mg base N_is_whole "is_whole" (defScope s_is_whole) Z.a_is_whole cdv A outer s H E).nox (defBody s_is_whole) (tr_is_whole K) :=
  (pss_one (ps_ret (pe_and (pe_callB call_isi (by rfl) Z.m_isinstance (by decide +kernel) (pa_cons (pv 0) (pa_cons (pe_bltn (v := .ty "int") (by rfl) Z.m_int (by decide +kernel) rfl) pa_nil))) (pe_one (pe_not (pe_callB call_isi (by rfl) Z.m_isinstance (by decide +kernel) (pa_cons (pv 0) (pa_cons (pe_bltn (v := .ty "bool") (by rfl) Z.m_bool (by decide +kernel) rfl) pa_nil))))))))
theorem ps_kind_of (Z : Fx K mg)   {cdv : Value} {A : Around} {outer : List PySem.Env} {s : Shared} {H : Hp} {E : XK} (hr : Room 0 (A.deeper (envOfC "kind_of" (defScope s_kind_of) s.heap.objs.size Z.a_kind_of cdv))) :
    PSs (cxOf CX0 P w K mg base N_kind_of "kind_of" (defScope s_kind_of) Z.a_kind_of cdv A outer s H E).nox (defBody s_kind_of) (tr_kind_of K) :=
  (pss_cons (ps_if (pt_cmpR (op_inX (hu65 hr)) (pv 1) (pe_ix ix_seq (pv 0) pe_int (fun _ _ => rfl)) (by rfl))
(pss_one (ps_ret pe_str))
pss_nil)
(pss_cons (ps_if (pt_cmpR (op_inX (hu65 hr)) (pv 1) (pe_ix ix_seq (pv 0) pe_int (fun _ _ => rfl)) (by rfl))
(pss_one (ps_ret pe_str))
pss_nil)
(pss_one (ps_ret pe_non))))
theorem ps_sides_of (Z : Fx K mg)  (G_ascending : FnOk P w K mg base CX0 1 Z.a_ascending Z.d_ascending ["records"] (spH K (fn_ascending Z.tp0))) (G_each_once : FnOk P w K mg base CX0 1 Z.a_each_once Z.d_each_once ["words"] (spQ K pf_each_once)) (G_kind_of : FnOk P w K mg base CX0 1 Z.a_kind_of Z.d_kind_of ["record", "word"] (spQ K pf_kind_of)) {cdv : Value} {A : Around} {outer : List PySem.Env} {s : Shared} {H : Hp} {E : XK} (hr : Room 1 (A.deeper (envOfC "sides_of" (defScope s_sides_of) s.heap.objs.size Z.a_sides_of cdv))) :
    PSs (cxOf CX0 P w K mg base N_sides_of "sides_of" (defScope s_sides_of) Z.a_sides_of cdv A outer s H E).nox (defBody s_sides_of) (tr_sides_of K Z.tp0) :=
  (pss_cons (ps_set (i := 1) sc_sides_of.nd rfl (.inl rfl) pe_dnewK)
(pss_cons (ps_for PassesOwn.never rfl (pi_list (pe_call (G_ascending) (hr.mono (by decide)) (by rfl) Z.g_ascending Z.F_ascending.kp Z.b_ascending .nil pass0 (pa_cons (pv 0) pa_nil))) (pg_name (i := 2) sc_sides_of.nd rfl (.inl rfl))
(pss_cons (ps_asg (pv 2) (pg_tup (by rfl) (pgs_cons (pg_name (i := 3) sc_sides_of.nd rfl (.inl rfl)) (pgs_cons (pg_name (i := 4) sc_sides_of.nd rfl (.inl rfl)) (pgs_cons (pg_name (i := 5) sc_sides_of.nd rfl (.inl rfl)) (pgs_cons (pg_name (i := 6) sc_sides_of.nd rfl (.inl rfl)) (pgs_cons (pg_name (i := 7) sc_sides_of.nd rfl (.inl rfl)) pgs_nil)))))))
(pss_one (ps_for PassesOwn.never rfl (pi_tup (pe_call (G_each_once) (hr.mono (by decide)) (by rfl) Z.g_each_once Z.F_each_once.kp Z.b_each_once .nil pass0 (pa_cons (pe_op op_catA (pv 6) (pv 7)) pa_nil))) (pg_name (i := 8) sc_sides_of.nd rfl (.inl rfl))
(pss_one (ps_expr (pe_bm PySem.F.plainAttrs_list PySem.F.slot_list_append PySem.F.type_list_append mt_append (pe_dsetd (pv 1) (pv 8) (pe_lst pa_nil) ⟨by rfl, by rfl, by rfl, by rfl⟩) (pa_cons (pe_tup (pa_cons (pv 3) (pa_cons (pv 4) (pa_cons (pv 5) (pa_cons (pe_call (G_kind_of) (hr.mono (by decide)) (by rfl) Z.g_kind_of Z.F_kind_of.kp Z.b_kind_of .nil pass0 (pa_cons (pv 2) (pa_cons (pv 8) pa_nil))) pa_nil))))) pa_nil))))))))
(pss_one (ps_ret (pv 1)))))
theorem ps_do_race (Z : Fx K mg)  (G_are_unordered : FnOk P w K mg base CX0 4 Z.a_are_unordered Z.d_are_unordered ["one", "other"] (spQ K pf_are_unordered)) {cdv : Value} {A : Around} {outer : List PySem.Env} {s : Shared} {H : Hp} {E : XK} (hr : Room 4 (A.deeper (envOfC "do_race" (defScope s_do_race) s.heap.objs.size Z.a_do_race cdv))) :
    PSs (cxOf CX0 P w K mg base N_do_race "do_race" (defScope s_do_race) Z.a_do_race cdv A outer s H E).nox (defBody s_do_race) (tr_do_race K) :=
  (pss_one (ps_ret (pe_and (pe_cmpR (op_inX (hu65 hr)) pe_str (pe_tup (pa_cons (pe_ix ix_seq (pv 0) pe_int (fun _ _ => rfl)) (pa_cons (pe_ix ix_seq (pv 1) pe_int (fun _ _ => rfl)) pa_nil))) (by rfl)) (pe_one (pe_call (G_are_unordered) (hr.mono (by decide)) (by rfl) Z.g_are_unordered Z.F_are_unordered.kp Z.b_are_unordered .nil pass0 (pa_cons (pv 0) (pa_cons (pv 1) pa_nil)))))))
theorem ps_papers_of (Z : Fx K mg)  (G_do_race : FnOk P w K mg base CX0 5 Z.a_do_race Z.d_do_race ["one", "other"] (spQ K pf_do_race)) {cdv : Value} {A : Around} {outer : List PySem.Env} {s : Shared} {H : Hp} {E : XK} (hr : Room 5 (A.deeper (envOfC "papers_of" (defScope s_papers_of) s.heap.objs.size Z.a_papers_of cdv))) :
    PSs (cxOf CX0 P w K mg base N_papers_of "papers_of" (defScope s_papers_of) Z.a_papers_of cdv A outer s H E).nox (defBody s_papers_of) (tr_papers_of K) :=
  (pss_one (ps_ret (pe_lc (own := [("one", 2), ("other", 3)]) (g := (gTup K 2 (gCons (gName 2) (gCons (gName 3) gNil)))) (tt := (tB (tCall (spQ K pf_do_race) [] E0 (tCons (tVar 2) (tCons (tVar 3) tNil))))) (te := (tTup (tCons (tVar 0) (tCons (tVar 2) (tCons (tVar 3) tNil))))) rfl sc_papers_of.nd (pi_cmb (by rfl) Z.i_combinations (pa_cons (pv 1) (pa_cons pe_int pa_nil))) (blkOk_by (N := N_papers_of) (sc := defScope s_papers_of) (by decide +kernel)) (fun _ _ _ _ _ => pg_tup (by rfl) (pgs_cons (pg_name (i := 2) sc_papers_of.nd rfl (by first | exact Or.inl rfl | exact Or.inr rfl)) (pgs_cons (pg_name (i := 3) sc_papers_of.nd rfl (by first | exact Or.inl rfl | exact Or.inr rfl)) pgs_nil))) (fun _ _ _ _ _ => pts_one (pt_val (pe_call (G_do_race) (hr.mono (by decide)) (by rfl) Z.g_do_race Z.F_do_race.kp Z.b_do_race .nil pass0 (pa_cons (pv 2) (pa_cons (pv 3) pa_nil))))) (fun _ _ _ _ _ => (pe_tup (pa_cons (pv 0) (pa_cons (pv 2) (pa_cons (pv 3) pa_nil))))))))
theorem ps_report (Z : Fx K mg)  (G_sides_of : FnOk P w K mg base CX0 2 Z.a_sides_of Z.d_sides_of ["records"] (spH K (fn_sides_of Z.tp0))) (G_papers_of : FnOk P w K mg base CX0 6 Z.a_papers_of Z.d_papers_of ["word", "sides"] (spH K fn_papers_of)) {cdv : Value} {A : Around} {outer : List PySem.Env} {s : Shared} {H : Hp} {E : XK} (hr : Room 6 (A.deeper (envOfC "report" (defScope s_report) s.heap.objs.size Z.a_report cdv))) :
    PSs (cxOf CX0 P w K mg base N_report "report" (defScope s_report) Z.a_report cdv A outer s H E).nox (defBody s_report) (tr_report K Z.tp0) :=
  (pss_cons (ps_set (i := 1) sc_report.nd rfl (.inl rfl) (pe_call (G_sides_of) (hr.mono (by decide)) (by rfl) Z.g_sides_of Z.F_sides_of.kp Z.b_sides_of .nil pass0 (pa_cons (pv 0) pa_nil)))
(pss_cons (ps_set (i := 2) sc_report.nd rfl (.inl rfl) (pe_lst pa_nil))
(pss_cons (ps_for PassesOwn.never rfl (pi_list (pe_callB (call_sortedDI rfl) (by rfl) Z.m_sorted (by decide +kernel) (pa_cons (pv 1) pa_nil))) (pg_name (i := 3) sc_report.nd rfl (.inl rfl))
(pss_one (ps_expr (pe_bm PySem.F.plainAttrs_list PySem.F.slot_list_extend PySem.F.type_list_extend mt_extend (pv 2) (pa_cons (pe_call (G_papers_of) (hr.mono (by decide)) (by rfl) Z.g_papers_of Z.F_papers_of.kp Z.b_papers_of .nil pass0 (pa_cons (pv 3) (pa_cons (pe_dget (hu_of hr) (pv 1) (pv 3) (fun _ _ => rfl)) pa_nil))) pa_nil)))))
(pss_one (ps_ret (pv 2))))))
theorem ps_is_clock (Z : Fx K mg)  (G_is_whole : FnOk P w K mg base CX0 1 Z.a_is_whole Z.d_is_whole ["value"] (spQ K pf_is_whole)) {cdv : Value} {A : Around} {outer : List PySem.Env} {s : Shared} {H : Hp} {E : XK} (hr : Room 1 (A.deeper (envOfC "is_clock" (defScope s_is_clock) s.heap.objs.size Z.a_is_clock cdv))) :
    PSs (cxOf CX0 P w K mg base N_is_clock "is_clock" (defScope s_is_clock) Z.a_is_clock cdv A outer s H E).nox (defBody s_is_clock) (tr_is_clock K) :=
  (pss_one (ps_ret (pe_and (pe_callB call_isi (by rfl) Z.m_isinstance (by decide +kernel) (pa_cons (pv 0) (pa_cons (pe_bltn (v := .ty "tuple") (by rfl) Z.m_tuple (by decide +kernel) rfl) pa_nil))) (pe_one (pe_callB (cr_all rfl) (by rfl) Z.m_all (by decide +kernel) (pa_cons (pe_lc (own := [("count", 1)]) (g := (gName 1)) (tt := tYes) (te := (tCall (spQ K pf_is_whole) [] E0 (tCons (tVar 1) tNil))) rfl sc_is_clock.nd (pi_tup (pv 0)) (blkOk_by (N := N_is_clock) (sc := defScope s_is_clock) (by decide +kernel)) (fun _ _ _ _ _ => pg_name (i := 1) sc_is_clock.nd rfl (by first | exact Or.inl rfl | exact Or.inr rfl)) (fun _ _ _ _ _ => pts_nil) (fun _ _ _ _ _ => (pe_call (G_is_whole) (hr.mono (by decide)) (by rfl) Z.g_is_whole Z.F_is_whole.kp Z.b_is_whole .nil pass0 (pa_cons (pv 1) pa_nil)))) pa_nil))))))
theorem ps_is_side (Z : Fx K mg)  (G_is_whole : FnOk P w K mg base CX0 1 Z.a_is_whole Z.d_is_whole ["value"] (spQ K pf_is_whole)) (G_is_clock : FnOk P w K mg base CX0 2 Z.a_is_clock Z.d_is_clock ["value"] (spQ K pf_is_clock)) {cdv : Value} {A : Around} {outer : List PySem.Env} {s : Shared} {H : Hp} {E : XK} (hr : Room 2 (A.deeper (envOfC "is_side" (defScope s_is_side) s.heap.objs.size Z.a_is_side cdv))) :
    PSs (cxOf CX0 P w K mg base N_is_side "is_side" (defScope s_is_side) Z.a_is_side cdv A outer s H E).nox (defBody s_is_side) (tr_is_side K) :=
  (pss_cons (ps_if (PW.pt (pw_or (pt_not (pt_val (pe_callB call_isi (by rfl) Z.m_isinstance (by decide +kernel) (pa_cons (pv 0) (pa_cons (pe_bltn (v := .ty "tuple") (by rfl) Z.m_tuple (by decide +kernel) rfl) pa_nil))))) (pw_or1 (pt_cmpR (op_neD hr.units) (pe_callB cr_len (by rfl) Z.m_len (by decide +kernel) (pa_cons (pv 0) pa_nil)) pe_int (nomark _)))))
(pss_one (ps_ret pe_bl))
pss_nil)
(pss_cons (ps_asg (pv 0) (pg_tup (by rfl) (pgs_cons (pg_name (i := 1) sc_is_side.nd rfl (.inl rfl)) (pgs_cons (pg_name (i := 2) sc_is_side.nd rfl (.inl rfl)) (pgs_cons (pg_name (i := 3) sc_is_side.nd rfl (.inl rfl)) (pgs_cons (pg_name (i := 4) sc_is_side.nd rfl (.inl rfl)) pgs_nil))))))
(pss_one (ps_ret (pe_and (pe_call (G_is_whole) (hr.mono (by decide)) (by rfl) Z.g_is_whole Z.F_is_whole.kp Z.b_is_whole .nil pass0 (pa_cons (pv 1) pa_nil)) (pe_and (pe_call (G_is_whole) (hr.mono (by decide)) (by rfl) Z.g_is_whole Z.F_is_whole.kp Z.b_is_whole .nil pass0 (pa_cons (pv 2) pa_nil)) (pe_and (pe_call (G_is_clock) (hr.mono (by decide)) (by rfl) Z.g_is_clock Z.F_is_clock.kp Z.b_is_clock .nil pass0 (pa_cons (pv 3) pa_nil)) (pe_one (pe_callB call_isi (by rfl) Z.m_isinstance (by decide +kernel) (pa_cons (pv 4) (pa_cons (pe_bltn (v := .ty "str") (by rfl) Z.m_str (by decide +kernel) rfl) pa_nil)))))))))))
theorem ps_is_paper (Z : Fx K mg)  (G_is_whole : FnOk P w K mg base CX0 1 Z.a_is_whole Z.d_is_whole ["value"] (spQ K pf_is_whole)) (G_is_side : FnOk P w K mg base CX0 3 Z.a_is_side Z.d_is_side ["value"] (spQ K pf_is_side)) {cdv : Value} {A : Around} {outer : List PySem.Env} {s : Shared} {H : Hp} {E : XK} (hr : Room 3 (A.deeper (envOfC "is_paper" (defScope s_is_paper) s.heap.objs.size Z.a_is_paper cdv))) :
    PSs (cxOf CX0 P w K mg base N_is_paper "is_paper" (defScope s_is_paper) Z.a_is_paper cdv A outer s H E).nox (defBody s_is_paper) (tr_is_paper K) :=
  (pss_cons (ps_if (PW.pt (pw_or (pt_not (pt_val (pe_callB call_isi (by rfl) Z.m_isinstance (by decide +kernel) (pa_cons (pv 0) (pa_cons (pe_bltn (v := .ty "tuple") (by rfl) Z.m_tuple (by decide +kernel) rfl) pa_nil))))) (pw_or1 (pt_cmpR (op_neD hr.units) (pe_callB cr_len (by rfl) Z.m_len (by decide +kernel) (pa_cons (pv 0) pa_nil)) pe_int (nomark _)))))
(pss_one (ps_ret pe_bl))
pss_nil)
(pss_cons (ps_asg (pv 0) (pg_tup (by rfl) (pgs_cons (pg_name (i := 1) sc_is_paper.nd rfl (.inl rfl)) (pgs_cons (pg_name (i := 2) sc_is_paper.nd rfl (.inl rfl)) (pgs_cons (pg_name (i := 3) sc_is_paper.nd rfl (.inl rfl)) pgs_nil)))))
(pss_one (ps_ret (pe_and (pe_call (G_is_whole) (hr.mono (by decide)) (by rfl) Z.g_is_whole Z.F_is_whole.kp Z.b_is_whole .nil pass0 (pa_cons (pv 1) pa_nil)) (pe_and (pe_call (G_is_side) (hr.mono (by decide)) (by rfl) Z.g_is_side Z.F_is_side.kp Z.b_is_side .nil pass0 (pa_cons (pv 2) pa_nil)) (pe_one (pe_call (G_is_side) (hr.mono (by decide)) (by rfl) Z.g_is_side Z.F_is_side.kp Z.b_is_side .nil pass0 (pa_cons (pv 3) pa_nil)))))))))
theorem ps_is_told (Z : Fx K mg)  (G_kind_of : FnOk P w K mg base CX0 1 Z.a_kind_of Z.d_kind_of ["record", "word"] (spQ K pf_kind_of)) {cdv : Value} {A : Around} {outer : List PySem.Env} {s : Shared} {H : Hp} {E : XK} (hr : Room 1 (A.deeper (envOfC "is_told" (defScope s_is_told) s.heap.objs.size Z.a_is_told cdv))) :
    PSs (cxOf CX0 P w K mg base N_is_told "is_told" (defScope s_is_told) Z.a_is_told cdv A outer s H E).nox (defBody s_is_told) (tr_is_told K) :=
  (pss_one (ps_ret (pe_callB (cr_any rfl) (by rfl) Z.m_any (by decide +kernel) (pa_cons (pe_lc (own := [("record", 3)]) (g := (gName 3)) (tt := tYes) (te := (tAndV (tOp (rEqD K) (tSl (rSlT K) (tVar 3) tNoPart (tPart (tC (.int 3)))) (tSl (rSlT K) (tVar 0) tNoPart (tPart (tC (.int 3))))) (tOp (rEqD K) (tCall (spQ K pf_kind_of) [] E0 (tCons (tVar 3) (tCons (tVar 1) tNil))) (tOp (rIx K) (tVar 0) (tC (.int 3)))))) rfl sc_is_told.nd (pi_list (pv 2)) (blkOk_by (N := N_is_told) (sc := defScope s_is_told) (by decide +kernel)) (fun _ _ _ _ _ => pg_name (i := 3) sc_is_told.nd rfl (by first | exact Or.inl rfl | exact Or.inr rfl)) (fun _ _ _ _ _ => pts_nil) (fun _ _ _ _ _ => (pe_and (pe_cmpR (op_eqD hr.units) (pe_slice sl_tup (pv 3) po_none (po_some pe_int)) (pe_slice sl_tup (pv 0) po_none (po_some pe_int)) (nomark _)) (pe_one (pe_cmpR (op_eqD hr.units) (pe_call (G_kind_of) (hr.mono (by decide)) (by rfl) Z.g_kind_of Z.F_kind_of.kp Z.b_kind_of .nil pass0 (pa_cons (pv 3) (pa_cons (pv 1) pa_nil))) (pe_ix ix_seq (pv 0) pe_int (fun _ _ => rfl)) (nomark _)))))) pa_nil))))
theorem ps_is_right (Z : Fx K mg)  (G_is_paper : FnOk P w K mg base CX0 4 Z.a_is_paper Z.d_is_paper ["value"] (spQ K pf_is_paper)) (G_do_race : FnOk P w K mg base CX0 5 Z.a_do_race Z.d_do_race ["one", "other"] (spQ K pf_do_race)) (G_is_told : FnOk P w K mg base CX0 2 Z.a_is_told Z.d_is_told ["side", "word", "records"] (spQ K pf_is_told)) {cdv : Value} {A : Around} {outer : List PySem.Env} {s : Shared} {H : Hp} {E : XK} (hr : Room 5 (A.deeper (envOfC "is_right" (defScope s_is_right) s.heap.objs.size Z.a_is_right cdv))) :
    PSs (cxOf CX0 P w K mg base N_is_right "is_right" (defScope s_is_right) Z.a_is_right cdv A outer s H E).nox (defBody s_is_right) (tr_is_right K) :=
  (pss_cons (ps_if (pt_not (pt_val (pe_call (G_is_paper) (hr.mono (by decide)) (by rfl) Z.g_is_paper Z.F_is_paper.kp Z.b_is_paper .nil pass0 (pa_cons (pv 0) pa_nil))))
(pss_one (ps_ret pe_bl))
pss_nil)
(pss_cons (ps_asg (pv 0) (pg_tup (by rfl) (pgs_cons (pg_name (i := 2) sc_is_right.nd rfl (.inl rfl)) (pgs_cons (pg_name (i := 3) sc_is_right.nd rfl (.inl rfl)) (pgs_cons (pg_name (i := 4) sc_is_right.nd rfl (.inl rfl)) pgs_nil)))))
(pss_cons (ps_if (PW.pt (pw_or (pt_not (pt_val (pe_call (G_is_told) (hr.mono (by decide)) (by rfl) Z.g_is_told Z.F_is_told.kp Z.b_is_told .nil pass0 (pa_cons (pv 3) (pa_cons (pv 2) (pa_cons (pv 1) pa_nil)))))) (pw_or1 (pt_not (pt_val (pe_call (G_is_told) (hr.mono (by decide)) (by rfl) Z.g_is_told Z.F_is_told.kp Z.b_is_told .nil pass0 (pa_cons (pv 4) (pa_cons (pv 2) (pa_cons (pv 1) pa_nil)))))))))
(pss_one (ps_ret pe_bl))
pss_nil)
(pss_one (ps_ret (pe_and (pe_cmpR op_lt (pe_ix ix_seq (pv 3) pe_int (fun _ _ => rfl)) (pe_ix ix_seq (pv 4) pe_int (fun _ _ => rfl)) (nomark _)) (pe_one (pe_call (G_do_race) (hr.mono (by decide)) (by rfl) Z.g_do_race Z.F_do_race.kp Z.b_do_race .nil pass0 (pa_cons (pv 3) (pa_cons (pv 4) pa_nil))))))))))
theorem ps__law_cell (Z : Fx K mg)   {cdv : Value} {A : Around} {outer : List PySem.Env} {s : Shared} {H : Hp} {E : XK} (hr : Room 0 (A.deeper (envOfC "_law_cell" (defScope s__law_cell) s.heap.objs.size Z.a__law_cell cdv))) :
    PSs (cxOf CX0 P w K mg base N__law_cell "_law_cell" (defScope s__law_cell) Z.a__law_cell cdv A outer s H E).nox (defBody s__law_cell) (tr__law_cell K) :=
  (pss_cons (ps_if (pt_cmpR op_lt (pv 1) (pe_callB cr_len (by rfl) Z.m_len (by decide +kernel) (pa_cons (pv 0) pa_nil)) (nomark _))
(pss_one (ps_ret (pe_callTy cr_int1 (by rfl) Z.m_int (by decide +kernel) (pa_cons (pe_ix ix_seq (pv 0) (pv 1) (fun _ _ => rfl)) pa_nil))))
pss_nil)
(pss_one (ps_ret pe_int)))
theorem ps__law_digits (Z : Fx K mg)   {cdv : Value} {A : Around} {outer : List PySem.Env} {s : Shared} {H : Hp} {E : XK} (hr : Room 0 (A.deeper (envOfC "_law_digits" (defScope s__law_digits) s.heap.objs.size Z.a__law_digits cdv))) :
    PSs (cxOf CX0 P w K mg base N__law_digits "_law_digits" (defScope s__law_digits) Z.a__law_digits cdv A outer s H E).nox (defBody s__law_digits) (tr__law_digits K) :=
  (pss_cons (ps_set (i := 2) sc__law_digits.nd rfl (.inl rfl) (pe_lst pa_nil))
(pss_cons (ps_set (i := 3) sc__law_digits.nd rfl (.inl rfl) (pe_callTy cr_int1 (by rfl) Z.m_int (by decide +kernel) (pa_cons (pv 0) pa_nil)))
(pss_cons (ps_for PassesOwn.never rfl (pi_list (pv 1)) (pg_name (i := 4) sc__law_digits.nd rfl (.inl rfl))
(pss_one (ps_if (pt_cmpR op_ge (pv 0) (pe_op op_pow pe_int pe_int) (nomark _))
(pss_cons (ps_expr (pe_bm PySem.F.plainAttrs_list PySem.F.slot_list_append PySem.F.type_list_append mt_append (pv 2) (pa_cons (pe_op op_mod (pe_callTy cr_int1 (by rfl) Z.m_int (by decide +kernel) (pa_cons (pv 3) pa_nil)) (pv 4)) pa_nil)))
(pss_one (ps_set (i := 3) sc__law_digits.nd rfl (.inl rfl) (pe_op op_fdivW (pv 3) (pv 4)))))
(pss_cons (ps_set (i := 3) sc__law_digits.nd rfl (.inl rfl) (pe_op op_mod (pe_op op_add (pe_op op_add (pe_op op_mulA (pe_callTy cr_int1 (by rfl) Z.m_int (by decide +kernel) (pa_cons (pv 3) pa_nil)) pe_int) (pe_op op_mulA pe_int (pe_callB cr_len (by rfl) Z.m_len (by decide +kernel) (pa_cons (pv 2) pa_nil)))) pe_int) pe_int))
(pss_cons (ps_set (i := 5) sc__law_digits.nd rfl (.inl rfl) (pe_op op_mod (pe_op op_mulA (pe_callTy cr_int1 (by rfl) Z.m_int (by decide +kernel) (pa_cons (pv 3) pa_nil)) (pe_callTy cr_int1 (by rfl) Z.m_int (by decide +kernel) (pa_cons (pv 3) pa_nil))) pe_int))
(pss_one (ps_expr (pe_bm PySem.F.plainAttrs_list PySem.F.slot_list_append PySem.F.type_list_append mt_append (pv 2) (pa_cons (pe_op op_mod (pe_op op_fdivW (pe_callTy cr_int1 (by rfl) Z.m_int (by decide +kernel) (pa_cons (pv 5) pa_nil)) pe_int) (pv 4)) pa_nil)))))))))
(pss_one (ps_ret (pv 2))))))
theorem ps__law_many (Z : Fx K mg)   {cdv : Value} {A : Around} {outer : List PySem.Env} {s : Shared} {H : Hp} {E : XK} (hr : Room 0 (A.deeper (envOfC "_law_many" (defScope s__law_many) s.heap.objs.size Z.a__law_many cdv))) :
    PSs (cxOf CX0 P w K mg base N__law_many "_law_many" (defScope s__law_many) Z.a__law_many cdv A outer s H E).nox (defBody s__law_many) (tr__law_many K) :=
  (pss_cons (ps_if (PW.pt (pw_and (pt_cmpR op_gt (pe_callB cr_len (by rfl) Z.m_len (by decide +kernel) (pa_cons (pv 0) pa_nil)) pe_int (nomark _)) (pw_and1 (pt_cmpR (op_eqD hr.units) (pe_op op_mod (pe_op op_fdivW (pe_callTy cr_int1 (by rfl) Z.m_int (by decide +kernel) (pa_cons (pe_ix ix_seq (pv 0) pe_int (fun _ _ => rfl)) pa_nil)) pe_int) pe_int) pe_int (nomark _)))))
(pss_one (ps_ret (pv 2)))
pss_nil)
(pss_one (ps_ret (pv 1))))
theorem ps__law_run (Z : Fx K mg)  (G__law_digits : FnOk P w K mg base CX0 1 Z.a__law_digits Z.d__law_digits ["cell", "bases"] (spQ K pf__law_digits)) {cdv : Value} {A : Around} {outer : List PySem.Env} {s : Shared} {H : Hp} {E : XK} (hr : Room 1 (A.deeper (envOfC "_law_run" (defScope s__law_run) s.heap.objs.size Z.a__law_run cdv))) :
    PSs (cxOf CX0 P w K mg base N__law_run "_law_run" (defScope s__law_run) Z.a__law_run cdv A outer s H E).nox (defBody s__law_run) (tr__law_run K) :=
  (pss_cons (ps_set (i := 2) sc__law_run.nd rfl (.inl rfl) (pe_lst pa_nil))
(pss_cons (ps_setLc (i := 3) (own := [("p", 5)]) (g := (gName 5)) (tt := tYes) (te := (tCB (rTupOf K) (tCons (tLc (iRng1 (tCons (tVar 1) tNil)) (gName 4) tYes (tCB rInt1 (tCons (tOp (rEqD K) (tVar 5) (tVar 4)) tNil)) [4]) tNil))) rfl sc__law_run.nd rfl rfl (sw_true rfl rfl rfl (by decide +kernel)) (pi_range1 rfl Z.m_range (pa_cons (pv 1) pa_nil)) (blkOk_by (N := N__law_run) (sc := defScope s__law_run) (by decide +kernel)) (fun _ _ _ _ _ => pg_name (i := 5) sc__law_run.nd rfl (by first | exact Or.inl rfl | exact Or.inr rfl)) (fun _ _ _ _ _ => pts_nil) (fun _ _ _ _ _ => (pe_callTy cr_tup (by rfl) Z.m_tuple (by decide +kernel) (pa_cons (pe_lc (own := [("q", 4)]) (g := (gName 4)) (tt := tYes) (te := (tCB rInt1 (tCons (tOp (rEqD K) (tVar 5) (tVar 4)) tNil))) rfl sc__law_run.nd (pi_range1 rfl Z.m_range (pa_cons (pv 1) pa_nil)) (blkOk_by (by first | kernel_rfl | rfl)) (fun _ _ _ _ _ => pg_name (i := 4) sc__law_run.nd rfl (by first | exact Or.inl rfl | exact Or.inr rfl)) (fun _ _ _ _ _ => pts_nil) (fun _ _ _ _ _ => (pe_callTy cr_int1 (by rfl) Z.m_int (by decide +kernel) (pa_cons (pe_cmpR (op_eqD hr.units) (pv 5) (pv 4) (nomark _)) pa_nil)))) pa_nil))))
(pss_cons (ps_for PassesOwn.never rfl (pi_range1 rfl Z.m_range (pa_cons (pe_callB cr_len (by rfl) Z.m_len (by decide +kernel) (pa_cons (pv 0) pa_nil)) pa_nil)) (pg_name (i := 6) sc__law_run.nd rfl (.inl rfl))
(pss_cons (ps_set (i := 7) sc__law_run.nd rfl (.inr rfl) (pe_call (G__law_digits) (hr.mono (by decide)) (by rfl) Z.g__law_digits Z.F__law_digits.kp Z.b__law_digits .nil pass0 (pa_cons (pe_op op_add (pe_ix ix_seq (pv 0) (pv 6) (fun _ _ => rfl)) (pe_op op_mulA pe_int (pv 6))) (pa_cons (pe_lst (pa_cons (pv 1) (pa_cons (pv 1) (pa_cons pe_int (pa_cons pe_int (pa_cons pe_int (pa_cons pe_int pa_nil))))))) pa_nil))))
(pss_cons (ps_asg (pe_tup (pa_cons (pe_ix ix_seq (pv 7) pe_int (fun _ _ => rfl)) (pa_cons (pe_ix ix_seq (pv 7) pe_int (fun _ _ => rfl)) pa_nil))) (pg_tup (by rfl) (pgs_cons (pg_name (i := 5) sc__law_run.nd rfl (.inl rfl)) (pgs_cons (pg_name (i := 4) sc__law_run.nd rfl (.inr rfl)) pgs_nil))))
(pss_cons (ps_setLc (i := 8) (own := [("w", 13)]) (g := (gName 13)) (tt := (tOr (tTest (tOp (rEqD K) (tVar 13) (tOp (rIx K) (tVar 7) (tC (.int 3))))) (tAnd (tTest (tOp (rEqD K) (tOp (rIx K) (tVar 7) (tC (.int 5))) (tC (.int 1)))) (tTest (tOp (rEqD K) (tVar 13) (tOp (rIx K) (tVar 7) (tC (.int 4)))))))) (te := (tVar 13)) rfl sc__law_run.nd rfl rfl (sw_true rfl rfl rfl (by decide +kernel)) (pi_range1 rfl Z.m_range (pa_cons pe_int pa_nil)) (blkOk_by (N := N__law_run) (sc := defScope s__law_run) (by decide +kernel)) (fun _ _ _ _ _ => pg_name (i := 13) sc__law_run.nd rfl (by first | exact Or.inl rfl | exact Or.inr rfl)) (fun _ _ _ _ _ => pts_one (PW.pt (pw_or (pt_cmpR (op_eqD hr.units) (pv 13) (pe_ix ix_seq (pv 7) pe_int (fun _ _ => rfl)) (nomark _)) (pw_or1 (PW.pt (pw_and (pt_cmpR (op_eqD hr.units) (pe_ix ix_seq (pv 7) pe_int (fun _ _ => rfl)) pe_int (nomark _)) (pw_and1 (pt_cmpR (op_eqD hr.units) (pv 13) (pe_ix ix_seq (pv 7) pe_int (fun _ _ => rfl)) (nomark _))))))))) (fun _ _ _ _ _ => (pv 13)))
(pss_cons (ps_setLc (i := 9) (own := [("w", 13)]) (g := (gName 13)) (tt := (tTest (tOp (rNeD K) (tOp (rIx K) (tVar 7) (tC (.int 2))) (tC (.int 1))))) (te := (tVar 13)) rfl sc__law_run.nd rfl rfl (sw_true rfl rfl rfl (by decide +kernel)) (pi_list (pv 8)) (blkOk_by (N := N__law_run) (sc := defScope s__law_run) (by decide +kernel)) (fun _ _ _ _ _ => pg_name (i := 13) sc__law_run.nd rfl (by first | exact Or.inl rfl | exact Or.inr rfl)) (fun _ _ _ _ _ => pts_one (pt_cmpR (op_neD hr.units) (pe_ix ix_seq (pv 7) pe_int (fun _ _ => rfl)) pe_int (nomark _))) (fun _ _ _ _ _ => (pv 13)))
(pss_cons (ps_setLc (i := 10) (own := [("w", 13)]) (g := (gName 13)) (tt := (tOr (tTest (tOp (rEqD K) (tOp (rIx K) (tVar 7) (tC (.int 2))) (tC (.int 1)))) (tAnd (tTest (tOp (rEqD K) (tOp (rIx K) (tVar 7) (tC (.int 2))) (tC (.int 2)))) (tTest (tOp (rEqD K) (tVar 13) (tOp (rIx K) (tVar 7) (tC (.int 3)))))))) (te := (tVar 13)) rfl sc__law_run.nd rfl rfl (sw_true rfl rfl rfl (by decide +kernel)) (pi_list (pv 8)) (blkOk_by (N := N__law_run) (sc := defScope s__law_run) (by decide +kernel)) (fun _ _ _ _ _ => pg_name (i := 13) sc__law_run.nd rfl (by first | exact Or.inl rfl | exact Or.inr rfl)) (fun _ _ _ _ _ => pts_one (PW.pt (pw_or (pt_cmpR (op_eqD hr.units) (pe_ix ix_seq (pv 7) pe_int (fun _ _ => rfl)) pe_int (nomark _)) (pw_or1 (PW.pt (pw_and (pt_cmpR (op_eqD hr.units) (pe_ix ix_seq (pv 7) pe_int (fun _ _ => rfl)) pe_int (nomark _)) (pw_and1 (pt_cmpR (op_eqD hr.units) (pv 13) (pe_ix ix_seq (pv 7) pe_int (fun _ _ => rfl)) (nomark _))))))))) (fun _ _ _ _ _ => (pv 13)))
(pss_cons (ps_expr (pe_bm PySem.F.plainAttrs_list PySem.F.slot_list_append PySem.F.type_list_append mt_append (pv 2) (pa_cons (pe_lst (pa_cons (pv 5) (pa_cons (pe_ix ix_seq (pe_ix ix_seq (pv 3) (pv 5) (fun _ _ => rfl)) (pv 5) (fun _ _ => rfl)) (pa_cons (pe_ix ix_seq (pv 3) (pv 5) (fun _ _ => rfl)) (pa_cons (pv 9) (pa_cons (pv 10) (pa_cons (pe_tup (pa_cons (pv 5) (pa_cons (pv 4) (pa_cons (pe_ix ix_seq (pv 7) pe_int (fun _ _ => rfl)) pa_nil)))) pa_nil))))))) pa_nil)))
(pss_cons (ps_set (i := 11) sc__law_run.nd rfl (.inr rfl) (pe_callTy cr_list (by rfl) Z.m_list (by decide +kernel) (pa_cons (pe_ix ix_seq (pv 3) (pv 5) (fun _ _ => rfl)) pa_nil)))
(pss_cons (ps_asg (pe_op op_add (pe_ix ix_seq (pv 11) (pv 5) (fun _ _ => rfl)) pe_int) (pg_sub (pv 11) (pv 5) set_list))
(pss_cons (ps_if (PW.pt (pw_and (pt_cmpR op_gt (pe_ix ix_seq (pv 7) pe_int (fun _ _ => rfl)) pe_int (nomark _)) (pw_and1 (pt_cmpR (op_neD hr.units) (pv 4) (pv 5) (nomark _)))))
(pss_cons (ps_set (i := 12) sc__law_run.nd rfl (.inr rfl) (pe_lc (own := [("row", 14)]) (g := (gName 14)) (tt := (tTest (tOp (rEqD K) (tOp (rIx K) (tVar 14) (tC (.int 0))) (tVar 4)))) (te := (tVar 14)) rfl sc__law_run.nd (pi_list (pv 2)) (blkOk_by (N := N__law_run) (sc := defScope s__law_run) (by decide +kernel)) (fun _ _ _ _ _ => pg_name (i := 14) sc__law_run.nd rfl (by first | exact Or.inl rfl | exact Or.inr rfl)) (fun _ _ _ _ _ => pts_one (pt_cmpR (op_eqD hr.units) (pe_ix ix_seq (pv 14) pe_int (fun _ _ => rfl)) (pv 4) (nomark _))) (fun _ _ _ _ _ => (pv 14))))
(pss_one (ps_if (pt_cmpR (op_neD hr.units) (pv 12) (pe_lst pa_nil) (nomark _))
(pss_one (ps_set (i := 11) sc__law_run.nd rfl (.inr rfl) (pe_lc (own := [("m", 15)]) (g := (gName 15)) (tt := tYes) (te := (tCB rMax2 (tCons (tOp (rIx K) (tVar 11) (tVar 15)) (tCons (tOp (rIx K) (tOp (rIx K) (tOp (rIx K) (tVar 12) (tUn (rU fun i => .int (-i)) (tC (.int 1)))) (tC (.int 2))) (tVar 15)) tNil)))) rfl sc__law_run.nd (pi_range1 rfl Z.m_range (pa_cons (pv 1) pa_nil)) (blkOk_by (N := N__law_run) (sc := defScope s__law_run) (by decide +kernel)) (fun _ _ _ _ _ => pg_name (i := 15) sc__law_run.nd rfl (by first | exact Or.inl rfl | exact Or.inr rfl)) (fun _ _ _ _ _ => pts_nil) (fun _ _ _ _ _ => (pe_callB (cr_max2 rfl) (by rfl) Z.m_max (by decide +kernel) (pa_cons (pe_ix ix_seq (pv 11) (pv 15) (fun _ _ => rfl)) (pa_cons (pe_ix ix_seq (pe_ix ix_seq (pe_ix ix_seq (pv 12) (pe_un un_neg pe_int) (fun _ _ => rfl)) pe_int (fun _ _ => rfl)) (pv 15) (fun _ _ => rfl)) pa_nil)))))))
pss_nil)))
pss_nil)
(pss_one (ps_asg (pe_callTy cr_tup (by rfl) Z.m_tuple (by decide +kernel) (pa_cons (pv 11) pa_nil)) (pg_sub (pv 3) (pv 5) set_list)))))))))))))
(pss_one (ps_ret (pv 2))))))
theorem ps__law_changed (Z : Fx K mg)  (G__law_digits : FnOk P w K mg base CX0 1 Z.a__law_digits Z.d__law_digits ["cell", "bases"] (spQ K pf__law_digits)) {cdv : Value} {A : Around} {outer : List PySem.Env} {s : Shared} {H : Hp} {E : XK} (hr : Room 1 (A.deeper (envOfC "_law_changed" (defScope s__law_changed) s.heap.objs.size Z.a__law_changed cdv))) :
    PSs (cxOf CX0 P w K mg base N__law_changed "_law_changed" (defScope s__law_changed) Z.a__law_changed cdv A outer s H E).nox (defBody s__law_changed) (tr__law_changed K) :=
  (pss_cons (ps_set (i := 2) sc__law_changed.nd rfl (.inr rfl) (pe_call (G__law_digits) (hr.mono (by decide)) (by rfl) Z.g__law_digits Z.F__law_digits.kp Z.b__law_digits .nil pass0 (pa_cons (pv 1) (pa_cons (pe_lst (pa_cons pe_int (pa_cons pe_int (pa_cons pe_int (pa_cons pe_int pa_nil))))) pa_nil))))
(pss_cons (ps_asg (pv 0) (pg_tup (by rfl) (pgs_cons (pg_name (i := 3) sc__law_changed.nd rfl (.inl rfl)) (pgs_cons (pg_name (i := 4) sc__law_changed.nd rfl (.inl rfl)) (pgs_cons (pg_name (i := 5) sc__law_changed.nd rfl (.inl rfl)) pgs_nil)))))
(pss_cons (ps_if (pt_cmpR (op_eqD hr.units) (pe_ix ix_seq (pv 2) pe_int (fun _ _ => rfl)) pe_int (nomark _))
(pss_one (ps_ret (pe_tup (pa_cons (pe_ix ix_seq (pv 2) pe_int (fun _ _ => rfl)) (pa_cons (pv 4) (pa_cons (pv 5) pa_nil))))))
pss_nil)
(pss_cons (ps_if (pt_cmpR (op_eqD hr.units) (pe_ix ix_seq (pv 2) pe_int (fun _ _ => rfl)) pe_int (nomark _))
(pss_one (ps_ret (pe_tup (pa_cons (pv 3) (pa_cons (pv 5) (pa_cons (pv 4) pa_nil))))))
pss_nil)
(pss_cons (ps_if (pt_cmpR (op_eqD hr.units) (pe_ix ix_seq (pv 2) pe_int (fun _ _ => rfl)) pe_int (nomark _))
(pss_one (ps_ret (pe_tup (pa_cons (pv 3) (pa_cons (pv 4) pa_nil)))))
pss_nil)
(pss_cons (ps_if (pt_cmpR (op_eqD hr.units) (pe_ix ix_seq (pv 2) pe_int (fun _ _ => rfl)) pe_int (nomark _))
(pss_one (ps_ret (pe_ix ix_seq (pe_lst (pa_cons pe_non (pa_cons pe_int (pa_cons (pe_tup pa_nil) (pa_cons (pe_tup (pa_cons (pv 3) (pa_cons pe_int (pa_cons (pv 5) pa_nil)))) (pa_cons (pe_lst (pa_cons (pv 3) (pa_cons (pv 4) (pa_cons (pv 5) pa_nil)))) (pa_cons (pe_tup (pa_cons (pv 3) (pa_cons (pv 4) (pa_cons (pv 5) (pa_cons pe_int pa_nil))))) pa_nil))))))) (pe_op op_mod (pe_ix ix_seq (pv 2) pe_int (fun _ _ => rfl)) pe_int) (fun _ _ => rfl))))
pss_nil)
(pss_cons (ps_set (i := 6) sc__law_changed.nd rfl (.inl rfl) (pe_lst (pa_cons (pe_callTy cr_list (by rfl) Z.m_list (by decide +kernel) (pa_cons (pv 4) pa_nil)) (pa_cons (pe_callTy cr_list (by rfl) Z.m_list (by decide +kernel) (pa_cons (pv 5) pa_nil)) pa_nil))))
(pss_cons (ps_set (i := 7) sc__law_changed.nd rfl (.inl rfl) (pe_ix ix_seq (pv 6) (pe_ix ix_seq (pv 2) pe_int (fun _ _ => rfl)) (fun _ _ => rfl)))
(pss_cons (ps_if (pt_cmpR (op_eqD hr.units) (pe_ix ix_seq (pv 2) pe_int (fun _ _ => rfl)) pe_int (nomark _))
(pss_one (ps_asg (pe_ix ix_seq (pv 2) pe_int (fun _ _ => rfl)) (pg_sub (pv 7) pe_int set_list)))
(pss_one (ps_if (pt_cmpR (op_eqD hr.units) (pe_ix ix_seq (pv 2) pe_int (fun _ _ => rfl)) pe_int (nomark _))
(pss_one (ps_asg (pe_op op_sub (pe_op op_add (pe_ix ix_seq (pv 7) pe_int (fun _ _ => rfl)) pe_int) (pe_ix ix_seq (pv 2) pe_int (fun _ _ => rfl))) (pg_sub (pv 7) pe_int set_list)))
(pss_one (ps_if (pt_cmpR (op_eqD hr.units) (pe_ix ix_seq (pv 2) pe_int (fun _ _ => rfl)) pe_int (nomark _))
(pss_one (ps_asg (pe_callTy cr_tup (by rfl) Z.m_tuple (by decide +kernel) (pa_cons (pe_lc (own := [("count", 8)]) (g := (gName 8)) (tt := tYes) (te := (tOp (rI0 fun i j => .int (i + j)) (tVar 8) (tOp (rIx K) (tVar 2) (tC (.int 1))))) rfl sc__law_changed.nd (pi_tup (pe_ix ix_seq (pv 7) pe_int (fun _ _ => rfl))) (blkOk_by (N := N__law_changed) (sc := defScope s__law_changed) (by decide +kernel)) (fun _ _ _ _ _ => pg_name (i := 8) sc__law_changed.nd rfl (by first | exact Or.inl rfl | exact Or.inr rfl)) (fun _ _ _ _ _ => pts_nil) (fun _ _ _ _ _ => (pe_op op_add (pv 8) (pe_ix ix_seq (pv 2) pe_int (fun _ _ => rfl))))) pa_nil)) (pg_sub (pv 7) pe_int set_list)))
(pss_one (ps_if (pt_cmpR (op_eqD hr.units) (pe_ix ix_seq (pv 2) pe_int (fun _ _ => rfl)) pe_int (nomark _))
(pss_one (ps_asg (pe_ix ix_seq (pe_lst (pa_cons pe_str (pa_cons pe_str (pa_cons pe_non pa_nil)))) (pe_ix ix_seq (pv 2) pe_int (fun _ _ => rfl)) (fun _ _ => rfl)) (pg_sub (pv 7) pe_int set_list)))
pss_nil)))))))
(pss_one (ps_ret (pe_tup (pa_cons (pv 3) (pa_cons (pe_callTy cr_tup (by rfl) Z.m_tuple (by decide +kernel) (pa_cons (pe_ix ix_seq (pv 6) pe_int (fun _ _ => rfl)) pa_nil)) (pa_cons (pe_callTy cr_tup (by rfl) Z.m_tuple (by decide +kernel) (pa_cons (pe_ix ix_seq (pv 6) pe_int (fun _ _ => rfl)) pa_nil)) pa_nil)))))))))))))))
theorem ps__law_side (Z : Fx K mg)   {cdv : Value} {A : Around} {outer : List PySem.Env} {s : Shared} {H : Hp} {E : XK} (hr : Room 0 (A.deeper (envOfC "_law_side" (defScope s__law_side) s.heap.objs.size Z.a__law_side cdv))) :
    PSs (cxOf CX0 P w K mg base N__law_side "_law_side" (defScope s__law_side) Z.a__law_side cdv A outer s H E).nox (defBody s__law_side) (tr__law_side K) :=
  (pss_cons (ps_set (i := 2) sc__law_side.nd rfl (.inl rfl) pe_non)
(pss_cons (ps_if (pt_cmpR (op_inX (hu65 hr)) (pv 1) (pe_ix ix_seq (pv 0) pe_int (fun _ _ => rfl)) (by rfl))
(pss_one (ps_set (i := 2) sc__law_side.nd rfl (.inl rfl) pe_str))
(pss_one (ps_if (pt_cmpR (op_inX (hu65 hr)) (pv 1) (pe_ix ix_seq (pv 0) pe_int (fun _ _ => rfl)) (by rfl))
(pss_one (ps_set (i := 2) sc__law_side.nd rfl (.inl rfl) pe_str))
pss_nil)))
(pss_one (ps_ret (pe_tup (pa_cons (pe_ix ix_seq (pv 0) pe_int (fun _ _ => rfl)) (pa_cons (pe_ix ix_seq (pv 0) pe_int (fun _ _ => rfl)) (pa_cons (pe_ix ix_seq (pv 0) pe_int (fun _ _ => rfl)) (pa_cons (pv 2) pa_nil)))))))))
theorem ps_law (Z : Fx K mg)  (G_report : FnOk P w K mg base CX0 7 Z.a_report Z.d_report ["records"] (spH K (fn_report Z.tp0))) (G__law_cell : FnOk P w K mg base CX0 1 Z.a__law_cell Z.d__law_cell ["script", "k"] (spQ K pf__law_cell)) (G_make_record : FnOk P w K mg base CX0 2 Z.a_make_record Z.d_make_record ["machine", "number", "clock", "loads", "stores"] (spQ K pf_make_record)) (G__law_changed : FnOk P w K mg base CX0 2 Z.a__law_changed Z.d__law_changed ["paper", "cell"] (spQ K pf__law_changed)) (G_is_right : FnOk P w K mg base CX0 6 Z.a_is_right Z.d_is_right ["paper", "records"] (spQ K pf_is_right)) (G__law_digits : FnOk P w K mg base CX0 1 Z.a__law_digits Z.d__law_digits ["cell", "bases"] (spQ K pf__law_digits)) (G__law_run : FnOk P w K mg base CX0 2 Z.a__law_run Z.d__law_run ["cells", "machines"] (spQ K pf__law_run)) (G__law_side : FnOk P w K mg base CX0 1 Z.a__law_side Z.d__law_side ["record", "word"] (spQ K pf__law_side)) (G__law_many : FnOk P w K mg base CX0 1 Z.a__law_many Z.d__law_many ["script", "few", "many"] (spQ K pf__law_many)) {cdv : Value} {A : Around} {outer : List PySem.Env} {s : Shared} {H : Hp} {E : XK} (hr : Room 7 (A.deeper (envOfC "law" (defScope s_law) s.heap.objs.size Z.a_law cdv))) :
    PSs (cxOf CX0 P w K mg base N_law "law" (defScope s_law) Z.a_law cdv A outer s H E).nox (defBody s_law) (tr_law K Z.tp0) :=
  (pss_cons (ps_set (i := 1) sc_law.nd rfl (.inl rfl) (pe_op op_add pe_int (pe_op op_mod (pe_callTy cr_int1 (by rfl) Z.m_int (by decide +kernel) (pa_cons (pe_call (G__law_cell) (hr.mono (by decide)) (by rfl) Z.g__law_cell Z.F__law_cell.kp Z.b__law_cell .nil pass0 (pa_cons (pv 0) (pa_cons pe_int pa_nil))) pa_nil)) pe_int)))
(pss_cons (ps_setLc (i := 2) (own := [("k", 3)]) (g := (gName 3)) (tt := tYes) (te := (tCall (spQ K pf__law_cell) [] E0 (tCons (tVar 0) (tCons (tVar 3) tNil)))) rfl sc_law.nd rfl rfl (sw_true rfl rfl rfl (by decide +kernel)) (pi_range1 rfl Z.m_range (pa_cons (pe_callB (cr_min2 rfl) (by rfl) Z.m_min (by decide +kernel) (pa_cons (pe_callB cr_len (by rfl) Z.m_len (by decide +kernel) (pa_cons (pv 0) pa_nil)) (pa_cons (pe_call (G__law_many) (hr.mono (by decide)) (by rfl) Z.g__law_many Z.F__law_many.kp Z.b__law_many .nil pass0 (pa_cons (pv 0) (pa_cons pe_int (pa_cons pe_int pa_nil)))) pa_nil))) pa_nil)) (blkOk_by (N := N_law) (sc := defScope s_law) (by decide +kernel)) (fun _ _ _ _ _ => pg_name (i := 3) sc_law.nd rfl (by first | exact Or.inl rfl | exact Or.inr rfl)) (fun _ _ _ _ _ => pts_nil) (fun _ _ _ _ _ => (pe_call (G__law_cell) (hr.mono (by decide)) (by rfl) Z.g__law_cell Z.F__law_cell.kp Z.b__law_cell .nil pass0 (pa_cons (pv 0) (pa_cons (pv 3) pa_nil)))))
(pss_cons (ps_setLc (i := 4) (own := [("row", 13)]) (g := (gName 13)) (tt := tYes) (te := (tCall (spQ K pf_make_record) [] E0 (tCons (tOp (rIx K) (tVar 13) (tC (.int 0))) (tCons (tOp (rIx K) (tVar 13) (tC (.int 1))) (tCons (tOp (rIx K) (tVar 13) (tC (.int 2))) (tCons (tOp (rIx K) (tVar 13) (tC (.int 3))) (tCons (tOp (rIx K) (tVar 13) (tC (.int 4))) tNil))))))) rfl sc_law.nd rfl rfl (sw_true rfl rfl rfl (by decide +kernel)) (pi_list (pe_call (G__law_run) (hr.mono (by decide)) (by rfl) Z.g__law_run Z.F__law_run.kp Z.b__law_run .nil pass0 (pa_cons (pv 2) (pa_cons (pv 1) pa_nil)))) (blkOk_by (N := N_law) (sc := defScope s_law) (by decide +kernel)) (fun _ _ _ _ _ => pg_name (i := 13) sc_law.nd rfl (by first | exact Or.inl rfl | exact Or.inr rfl)) (fun _ _ _ _ _ => pts_nil) (fun _ _ _ _ _ => (pe_call (G_make_record) (hr.mono (by decide)) (by rfl) Z.g_make_record Z.F_make_record.kp Z.b_make_record .nil pass0 (pa_cons (pe_ix ix_seq (pv 13) pe_int (fun _ _ => rfl)) (pa_cons (pe_ix ix_seq (pv 13) pe_int (fun _ _ => rfl)) (pa_cons (pe_ix ix_seq (pv 13) pe_int (fun _ _ => rfl)) (pa_cons (pe_ix ix_seq (pv 13) pe_int (fun _ _ => rfl)) (pa_cons (pe_ix ix_seq (pv 13) pe_int (fun _ _ => rfl)) pa_nil))))))))
(pss_cons (ps_set (i := 5) sc_law.nd rfl (.inl rfl) (pe_call (G_report) (hr.mono (by decide)) (by rfl) Z.g_report Z.F_report.kp Z.b_report .nil pass0 (pa_cons (pv 4) pa_nil)))
(pss_cons (ps_for PassesOwn.never rfl (pi_range1 rfl Z.m_range (pa_cons (pe_callB cr_len (by rfl) Z.m_len (by decide +kernel) (pa_cons (pv 5) pa_nil)) pa_nil)) (pg_name (i := 3) sc_law.nd rfl (.inl rfl))
(pss_cons (ps_if (pt_cmpR op_notBl (pe_call (G_is_right) (hr.mono (by decide)) (by rfl) Z.g_is_right Z.F_is_right.kp Z.b_is_right .nil pass0 (pa_cons (pe_ix ix_seq (pv 5) (pv 3) (fun _ _ => rfl)) (pa_cons (pv 4) pa_nil))) pe_bl (nomark _))
(pss_one (ps_ret pe_bl))
pss_nil)
(pss_cons (ps_set (i := 6) sc_law.nd rfl (.inl rfl) (pe_call (G__law_changed) (hr.mono (by decide)) (by rfl) Z.g__law_changed Z.F__law_changed.kp Z.b__law_changed .nil pass0 (pa_cons (pe_ix ix_seq (pv 5) (pv 3) (fun _ _ => rfl)) (pa_cons (pe_op op_add (pe_call (G__law_cell) (hr.mono (by decide)) (by rfl) Z.g__law_cell Z.F__law_cell.kp Z.b__law_cell .nil pass0 (pa_cons (pv 0) (pa_cons (pv 3) pa_nil))) (pe_op op_mulA pe_int (pv 3))) pa_nil))))
(pss_cons (ps_set (i := 7) sc_law.nd rfl (.inl rfl) (pe_call (G_is_right) (hr.mono (by decide)) (by rfl) Z.g_is_right Z.F_is_right.kp Z.b_is_right .nil pass0 (pa_cons (pv 6) (pa_cons (pv 4) pa_nil))))
(pss_one (ps_if (PW.pt (pw_or (pt_not (pt_val (pe_callB call_isi (by rfl) Z.m_isinstance (by decide +kernel) (pa_cons (pv 7) (pa_cons (pe_bltn (v := .ty "bool") (by rfl) Z.m_bool (by decide +kernel) rfl) pa_nil))))) (pw_or1 (pt_cmpR (op_neD hr.units) (pv 7) (pe_cmpR (op_inD (hu65 hr)) (pv 6) (pv 5) (by rfl)) (nomark _)))))
(pss_one (ps_ret pe_bl))
pss_nil))))))
(pss_cons (ps_for PassesOwn.never rfl (pi_range1 rfl Z.m_range (pa_cons (pe_op op_mulA pe_int (pe_callB cr_len (by rfl) Z.m_len (by decide +kernel) (pa_cons (pv 4) pa_nil))) pa_nil)) (pg_name (i := 3) sc_law.nd rfl (.inl rfl))
(pss_cons (ps_set (i := 8) sc_law.nd rfl (.inl rfl) (pe_call (G__law_digits) (hr.mono (by decide)) (by rfl) Z.g__law_digits Z.F__law_digits.kp Z.b__law_digits .nil pass0 (pa_cons (pe_op op_add (pe_call (G__law_cell) (hr.mono (by decide)) (by rfl) Z.g__law_cell Z.F__law_cell.kp Z.b__law_cell .nil pass0 (pa_cons (pv 0) (pa_cons (pv 3) pa_nil))) (pe_op op_mulA pe_int (pv 3))) (pa_cons (pe_lst (pa_cons (pe_callB cr_len (by rfl) Z.m_len (by decide +kernel) (pa_cons (pv 4) pa_nil)) (pa_cons (pe_callB cr_len (by rfl) Z.m_len (by decide +kernel) (pa_cons (pv 4) pa_nil)) (pa_cons pe_int pa_nil)))) pa_nil))))
(pss_cons (ps_set (i := 9) sc_law.nd rfl (.inl rfl) (pe_ix ix_seq (pv 4) (pe_ix ix_seq (pv 8) pe_int (fun _ _ => rfl)) (fun _ _ => rfl)))
(pss_cons (ps_set (i := 10) sc_law.nd rfl (.inl rfl) (pe_ix ix_seq (pv 4) (pe_ix ix_seq (pv 8) pe_int (fun _ _ => rfl)) (fun _ _ => rfl)))
(pss_cons (ps_set (i := 11) sc_law.nd rfl (.inl rfl) (pe_tup (pa_cons (pe_ix ix_seq (pv 8) pe_int (fun _ _ => rfl)) (pa_cons (pe_call (G__law_side) (hr.mono (by decide)) (by rfl) Z.g__law_side Z.F__law_side.kp Z.b__law_side .nil pass0 (pa_cons (pv 9) (pa_cons (pe_ix ix_seq (pv 8) pe_int (fun _ _ => rfl)) pa_nil))) (pa_cons (pe_call (G__law_side) (hr.mono (by decide)) (by rfl) Z.g__law_side Z.F__law_side.kp Z.b__law_side .nil pass0 (pa_cons (pv 10) (pa_cons (pe_ix ix_seq (pv 8) pe_int (fun _ _ => rfl)) pa_nil))) pa_nil)))))
(pss_one (ps_if (pt_cmpR (op_neD hr.units) (pe_call (G_is_right) (hr.mono (by decide)) (by rfl) Z.g_is_right Z.F_is_right.kp Z.b_is_right .nil pass0 (pa_cons (pv 11) (pa_cons (pv 4) pa_nil))) (pe_cmpR (op_inD (hu65 hr)) (pv 11) (pv 5) (by rfl)) (nomark _))
(pss_one (ps_ret pe_bl))
pss_nil)))))))
(pss_cons (ps_for PassesOwn.never rfl (pi_tup (pe_tup (pa_cons pe_non (pa_cons pe_int (pa_cons pe_str (pa_cons (pe_tup pa_nil) (pa_cons (pe_lst pa_nil) (pa_cons (pe_tup (pa_cons pe_int (pa_cons (pe_tup pa_nil) (pa_cons (pe_tup pa_nil) pa_nil)))) (pa_cons (pe_tup (pa_cons pe_int (pa_cons (pe_tup (pa_cons pe_int (pa_cons pe_int (pa_cons (pe_tup (pa_cons pe_int (pa_cons pe_int pa_nil))) (pa_cons pe_str pa_nil))))) (pa_cons (pe_tup (pa_cons pe_int (pa_cons pe_int (pa_cons (pe_tup (pa_cons pe_int (pa_cons pe_int pa_nil))) (pa_cons pe_str pa_nil))))) pa_nil)))) pa_nil))))))))) (pg_name (i := 12) sc_law.nd rfl (.inl rfl))
(pss_one (ps_if (pt_cmpR op_notBl (pe_call (G_is_right) (hr.mono (by decide)) (by rfl) Z.g_is_right Z.F_is_right.kp Z.b_is_right .nil pass0 (pa_cons (pv 12) (pa_cons (pe_lst pa_nil) pa_nil))) pe_bl (nomark _))
(pss_one (ps_ret pe_bl))
pss_nil)))
(pss_one (ps_ret pe_bl)))))))))
theorem ok_covers (Z : Fx K mg)  : FnOk P w K mg base CX0 1 Z.a_covers Z.d_covers ["clock", "machine", "number"] (spQ K pf_covers) :=
  fn_okQ Z.F_covers sc_covers rfl rfl (fun _ _ _ _ _ _ hr => ps_covers Z  hr) (sim_covers K)
theorem ok_each_once (Z : Fx K mg)  : FnOk P w K mg base CX0 1 Z.a_each_once Z.d_each_once ["words"] (spQ K pf_each_once) :=
  fn_okQ Z.F_each_once sc_each_once rfl rfl (fun _ _ _ _ _ _ hr => ps_each_once Z  hr) (sim_each_once K)
theorem ok_make_record (Z : Fx K mg)  : FnOk P w K mg base CX0 2 Z.a_make_record Z.d_make_record ["machine", "number", "clock", "loads", "stores"] (spQ K pf_make_record) :=
  fn_okQ Z.F_make_record sc_make_record rfl rfl (fun _ _ _ _ _ _ hr => ps_make_record Z (ok_each_once Z) hr) (sim_make_record K)
theorem ok_is_same (Z : Fx K mg)  : FnOk P w K mg base CX0 1 Z.a_is_same Z.d_is_same ["one", "other"] (spQ K pf_is_same) :=
  fn_okQ Z.F_is_same sc_is_same rfl rfl (fun _ _ _ _ _ _ hr => ps_is_same Z  hr) (sim_is_same K)
theorem ok_is_covered (Z : Fx K mg)  : FnOk P w K mg base CX0 2 Z.a_is_covered Z.d_is_covered ["record", "clock"] (spQ K pf_is_covered) :=
  fn_okQ Z.F_is_covered sc_is_covered rfl rfl (fun _ _ _ _ _ _ hr => ps_is_covered Z (ok_covers Z) hr) (sim_is_covered K)
theorem ok_is_before (Z : Fx K mg)  : FnOk P w K mg base CX0 3 Z.a_is_before Z.d_is_before ["one", "other"] (spQ K pf_is_before) :=
  fn_okQ Z.F_is_before sc_is_before rfl rfl (fun _ _ _ _ _ _ hr => ps_is_before Z (ok_is_covered Z) (ok_is_same Z) hr) (sim_is_before K)
theorem ok_are_unordered (Z : Fx K mg)  : FnOk P w K mg base CX0 4 Z.a_are_unordered Z.d_are_unordered ["one", "other"] (spQ K pf_are_unordered) :=
  fn_okQ Z.F_are_unordered sc_are_unordered rfl rfl (fun _ _ _ _ _ _ hr => ps_are_unordered Z (ok_is_before Z) hr) (sim_are_unordered K)
theorem ok_ascending (Z : Fx K mg) (TB0 : LamX.TabB base mg Z.tc0 Z.tp0) : FnOk P w K mg base CX0 1 Z.a_ascending Z.d_ascending ["records"] (spH K (fn_ascending Z.tp0)) :=
  fn_okHC Z.F_ascending sc_ascending rfl rfl (fun _ _ _ _ _ hr => ps_ascending Z TB0  hr) (sim_ascending K Z.tp0)
theorem ok_is_whole (Z : Fx K mg)  : FnOk P w K mg base CX0 1 Z.a_is_whole Z.d_is_whole ["value"] (spQ K pf_is_whole) :=
  fn_okQ Z.F_is_whole sc_is_whole rfl rfl (fun _ _ _ _ _ _ hr => ps_is_whole Z  hr) (sim_is_whole K)
theorem ok_kind_of (Z : Fx K mg)  : FnOk P w K mg base CX0 1 Z.a_kind_of Z.d_kind_of ["record", "word"] (spQ K pf_kind_of) :=
  fn_okQ Z.F_kind_of sc_kind_of rfl rfl (fun _ _ _ _ _ _ hr => ps_kind_of Z  hr) (sim_kind_of K)
theorem ok_sides_of (Z : Fx K mg) (TB0 : LamX.TabB base mg Z.tc0 Z.tp0) : FnOk P w K mg base CX0 2 Z.a_sides_of Z.d_sides_of ["records"] (spH K (fn_sides_of Z.tp0)) :=
  fn_okH Z.F_sides_of sc_sides_of rfl rfl (fun _ _ _ _ _ _ hr => ps_sides_of Z (ok_ascending Z TB0) (ok_each_once Z) (ok_kind_of Z) hr) (sim_sides_of K Z.tp0)
theorem ok_do_race (Z : Fx K mg)  : FnOk P w K mg base CX0 5 Z.a_do_race Z.d_do_race ["one", "other"] (spQ K pf_do_race) :=
  fn_okQ Z.F_do_race sc_do_race rfl rfl (fun _ _ _ _ _ _ hr => ps_do_race Z (ok_are_unordered Z) hr) (sim_do_race K)
theorem ok_papers_of (Z : Fx K mg)  : FnOk P w K mg base CX0 6 Z.a_papers_of Z.d_papers_of ["word", "sides"] (spH K fn_papers_of) :=
  fn_okH Z.F_papers_of sc_papers_of rfl rfl (fun _ _ _ _ _ _ hr => ps_papers_of Z (ok_do_race Z) hr) (sim_papers_of K)
theorem ok_report (Z : Fx K mg) (TB0 : LamX.TabB base mg Z.tc0 Z.tp0) : FnOk P w K mg base CX0 7 Z.a_report Z.d_report ["records"] (spH K (fn_report Z.tp0)) :=
  fn_okH Z.F_report sc_report rfl rfl (fun _ _ _ _ _ _ hr => ps_report Z (ok_sides_of Z TB0) (ok_papers_of Z) hr) (sim_report K Z.tp0)
theorem ok_is_clock (Z : Fx K mg)  : FnOk P w K mg base CX0 2 Z.a_is_clock Z.d_is_clock ["value"] (spQ K pf_is_clock) :=
  fn_okQ Z.F_is_clock sc_is_clock rfl rfl (fun _ _ _ _ _ _ hr => ps_is_clock Z (ok_is_whole Z) hr) (sim_is_clock K)
theorem ok_is_side (Z : Fx K mg)  : FnOk P w K mg base CX0 3 Z.a_is_side Z.d_is_side ["value"] (spQ K pf_is_side) :=
  fn_okQ Z.F_is_side sc_is_side rfl rfl (fun _ _ _ _ _ _ hr => ps_is_side Z (ok_is_whole Z) (ok_is_clock Z) hr) (sim_is_side K)
theorem ok_is_paper (Z : Fx K mg)  : FnOk P w K mg base CX0 4 Z.a_is_paper Z.d_is_paper ["value"] (spQ K pf_is_paper) :=
  fn_okQ Z.F_is_paper sc_is_paper rfl rfl (fun _ _ _ _ _ _ hr => ps_is_paper Z (ok_is_whole Z) (ok_is_side Z) hr) (sim_is_paper K)
theorem ok_is_told (Z : Fx K mg)  : FnOk P w K mg base CX0 2 Z.a_is_told Z.d_is_told ["side", "word", "records"] (spQ K pf_is_told) :=
  fn_okQ Z.F_is_told sc_is_told rfl rfl (fun _ _ _ _ _ _ hr => ps_is_told Z (ok_kind_of Z) hr) (sim_is_told K)
theorem ok_is_right (Z : Fx K mg)  : FnOk P w K mg base CX0 6 Z.a_is_right Z.d_is_right ["paper", "records"] (spQ K pf_is_right) :=
  fn_okQ Z.F_is_right sc_is_right rfl rfl (fun _ _ _ _ _ _ hr => ps_is_right Z (ok_is_paper Z) (ok_do_race Z) (ok_is_told Z) hr) (sim_is_right K)
theorem ok__law_cell (Z : Fx K mg)  : FnOk P w K mg base CX0 1 Z.a__law_cell Z.d__law_cell ["script", "k"] (spQ K pf__law_cell) :=
  fn_okQ Z.F__law_cell sc__law_cell rfl rfl (fun _ _ _ _ _ _ hr => ps__law_cell Z  hr) (sim__law_cell K)
theorem ok__law_digits (Z : Fx K mg)  : FnOk P w K mg base CX0 1 Z.a__law_digits Z.d__law_digits ["cell", "bases"] (spQ K pf__law_digits) :=
  fn_okQ Z.F__law_digits sc__law_digits rfl rfl (fun _ _ _ _ _ _ hr => ps__law_digits Z  hr) (sim__law_digits K)
theorem ok__law_many (Z : Fx K mg)  : FnOk P w K mg base CX0 1 Z.a__law_many Z.d__law_many ["script", "few", "many"] (spQ K pf__law_many) :=
  fn_okQ Z.F__law_many sc__law_many rfl rfl (fun _ _ _ _ _ _ hr => ps__law_many Z  hr) (sim__law_many K)
theorem ok__law_run (Z : Fx K mg)  : FnOk P w K mg base CX0 2 Z.a__law_run Z.d__law_run ["cells", "machines"] (spQ K pf__law_run) :=
  fn_okQ Z.F__law_run sc__law_run rfl rfl (fun _ _ _ _ _ _ hr => ps__law_run Z (ok__law_digits Z) hr) (sim__law_run K)
theorem ok__law_changed (Z : Fx K mg)  : FnOk P w K mg base CX0 2 Z.a__law_changed Z.d__law_changed ["paper", "cell"] (spQ K pf__law_changed) :=
  fn_okQ Z.F__law_changed sc__law_changed rfl rfl (fun _ _ _ _ _ _ hr => ps__law_changed Z (ok__law_digits Z) hr) (sim__law_changed K)
theorem ok__law_side (Z : Fx K mg)  : FnOk P w K mg base CX0 1 Z.a__law_side Z.d__law_side ["record", "word"] (spQ K pf__law_side) :=
  fn_okQ Z.F__law_side sc__law_side rfl rfl (fun _ _ _ _ _ _ hr => ps__law_side Z  hr) (sim__law_side K)
theorem ok_law (Z : Fx K mg) (TB0 : LamX.TabB base mg Z.tc0 Z.tp0) : FnOk P w K mg base CX0 8 Z.a_law Z.d_law ["script"] (spH K (fn_law Z.tp0)) :=
  fn_okH Z.F_law sc_law rfl rfl (fun _ _ _ _ _ _ hr => ps_law Z (ok_report Z TB0) (ok__law_cell Z) (ok_make_record Z) (ok__law_changed Z) (ok_is_right Z) (ok__law_digits Z) (ok__law_run Z) (ok__law_side Z) (ok__law_many Z) hr) (sim_law K Z.tp0)
end
local macro_rules | `(tactic| walk_at "ev") => `(tactic| try simp only [mRet, mRetN, mCB, mCBF, mCons, mNil, e_mVar, mK, mOp, mUn, mIf, mTest, mNot, mAnd, mOr, mYes, mOfT, mAndV, mOrV, mNotV, mChain, mSeq, mAsg, mAug, mDrop, mNext, mBreak, mCont, mIfS, mTup, mLst, mDat, mNew, mPar, mIsi, mLen, mTupOf, mListOf, mSetL, mApp, mDGet, mDPut, mDIn, mDGet2, mDNew, mLenD, mDictCp, toHeap, toPure, List.set_cons_zero, List.set_cons_succ, List.getElem?_cons_zero, List.getElem?_cons_succ, Option.bind_some, Option.map_some, List.map_cons, List.map_nil, List.length_cons, List.length_nil, wipeM, reify_d, List.cons_append, List.nil_append, List.append_nil, List.replicate_succ, List.replicate_zero, if_true, if_false, Bool.not_true, Bool.not_false, reduceIte, Nat.reduceAdd, Nat.reduceSub, Nat.reduceLeDiff, Nat.reduceLT, Int.reduceLT, Int.reduceLE, Bool.false_eq_true, Option.bind_none, Option.map_none, decide_true, decide_false, e_arg1, e_args1, e_args2, e_argsTT, e_asI, e_asB, e_itL, e_itT, e_itM, e_isTL, e_isTT, e_isTM, e_isTR, e_rowL, e_rowT, e_rowM, e_allD0, e_allD1, e_allDm, e_lift1, e_lift2, e_lift3, e_lift4, e_lift5, e_mkTup1, e_mkTup2, e_mkTup3, e_mkTup4, e_mkTup5, e_mkTupm, e_mgTupT, e_mgTupM, e_mgCons, e_mgNil, e_mgName, e_seqN, e_seqR, e_seqB, e_seqC, e_resR, e_resN, e_int1, e_int1b, e_max2, e_min2, e_abs, e_allB, e_anyB, e_eqI, e_neI, e_eqB, e_neB, e_I, e_IB, e_neg, e_mod, e_keyI, e_keyS, e_asL0, e_asL1, e_asL2, e_it0, e_it1, e_it2, e_ixL_0, e_ixL_1, e_ixL_2, e_ixL_3, e_ixL_4, e_ixL_5, e_ixL_6, e_ixL_7, e_ixL_8, e_ixT_0, e_ixT_1, e_ixT_2, e_ixT_3, e_ixT_4, e_ixT_5, e_ixT_6, e_ixT_7, e_ixT_8])
local macro_rules | `(tactic| walk_at "eh") => `(tactic| simp only [mRet, mRetN, mCB, mCBF, mCons, mNil, mVar, mK, mOp, mUn, mIf, mTest, mNot, mAnd, mOr, mYes, mOfT, mAndV, mOrV, mNotV, mChain, mSeq, mAsg, mAug, mDrop, mNext, mBreak, mCont, mIfS, mTup, mTupK, mLst, mDat, mNew, mPar, mIsi, mLen, mTupOf, mListOf, mSetL, mApp, mDGet, mDPut, mDIn, mDGet2, mDNew, mLenD, mDictCp, mCatE, mPop0E, mSlL, mPart, mNoPart, mTGet, mTGet2, mTIn, mTPut, mTNew, mLenT, mIx, at_l0, at_l1, at_l2, at_l3, at_l4, keyT_ii, asL_ref, asK_ref, asKT_ref, it_ref, List.getElem?_set_self, List.getElem?_set_ne, ne_eq, not_false_eq_true, not_true_eq_false, Nat.reduceEqDiff, Nat.succ_ne_self, List.length_set, toHeap, toPure, List.set_cons_zero, List.set_cons_succ, List.getElem?_cons_zero, List.getElem?_cons_succ, Option.bind_some, Option.map_some, List.map_cons, List.map_nil, List.length_cons, List.length_nil, wipeM, reify_d, List.cons_append, List.nil_append, List.append_nil, List.replicate_succ, List.replicate_zero, if_true, if_false, Bool.not_true, Bool.not_false, reduceIte, Nat.reduceAdd, Nat.reduceSub, Nat.reduceLeDiff, Nat.reduceLT, Int.reduceLT, Int.reduceLE, Bool.false_eq_true, Option.bind_none, Option.map_none, decide_true, decide_false, e_arg1, e_args1, e_args2, e_argsTT, e_asI, e_asB, e_itL, e_itT, e_itM, e_isTL, e_isTT, e_isTM, e_isTR, e_rowL, e_rowT, e_rowM, e_allD0, e_allD1, e_allDm, e_lift1, e_lift2, e_lift3, e_lift4, e_lift5, e_mkTup1, e_mkTup2, e_mkTup3, e_mkTup4, e_mkTup5, e_mkTupm, e_mgTupT, e_mgTupM, e_mgCons, e_mgNil, e_mgName, e_seqN, e_seqR, e_seqB, e_seqC, e_resR, e_resN, e_int1, e_int1b, e_max2, e_min2, e_abs, e_allB, e_anyB, e_eqI, e_neI, e_eqB, e_neB, e_I, e_IB, e_neg, e_keyI, e_keyS, *])
local macro_rules | `(tactic| walk_at "at") => `(tactic| first | assumption | exact at_eq (by (try simp only [List.length_set]); omega) | (refine at_ne ?_ (by decide); walk_at "at"))
theorem q__law_cell (ns : List Int) (k : Int) (hk : 0 ≤ k) : pf__law_cell [li ns, .int k] = some (.int (ns.getD k.toNat 0)) := by
  unfold pf__law_cell m__law_cell
  walk_at "ev"
  simp only [List.length_map]
  by_cases h : k < (ns.length : Int)
  · simp only [h]
    rw [e_ixLi hk h]
    walk_at "ev"
  · simp only [h]
    walk_at "ev"
    rw [List.getD_eq_getElem?_getD, List.getElem?_eq_none (by omega)]
    rfl
theorem getD_app (ds : List Int) (x : Int) : (ds ++ [x]).getD ds.length 0 = x := by simp [List.getD_eq_getElem?_getD]
theorem getD_app_lt (ds : List Int) (x : Int) {j : Nat} (h : j < ds.length) : (ds ++ [x]).getD j 0 = ds.getD j 0 := by
  simp only [List.getD_eq_getElem?_getD, List.getElem?_append_left h]
def dgOk (bs ds : List Int) : Prop := ∀ j, j < ds.length → 0 ≤ ds.getD j 0 ∧ ds.getD j 0 < bs.getD j 0
theorem dgOk_snoc {bs ds : List Int} {x b : Int} (h : dgOk bs ds) (hb : bs[ds.length]? = some b) (h0 : 0 ≤ x) (h1 : x < b) : dgOk bs (ds ++ [x]) := fun j hj => by
  rw [List.length_append, List.length_singleton] at hj
  by_cases e : j = ds.length
  · subst e
    rw [getD_app, List.getD_eq_getElem?_getD, hb]
    exact ⟨h0, h1⟩
  · rw [getD_app_lt ds x (by omega)]
    exact h j (by omega)
theorem q__law_digits (c : Int) (bs : List Int) (hb : ∀ b ∈ bs, 0 < b ∧ b < 2 ^ 62) (hl : bs.length ≤ 1000) : ∃ ds : List Int, pf__law_digits [.int c, li bs] = some (li ds) ∧ ds.length = bs.length ∧ dgOk bs ds := by
  unfold pf__law_digits m__law_digits
  walk_at "ev"
  obtain ⟨env', h', e, ds, r, x4, x5, rfl, rfl, hn, ok⟩ := mFor_inv (mi := mItL (mVar 1)) (g := mgName 4)
    (mb := mb__law_digits_1)
    (env := [some (dI c), some (.d (li bs)), some (.ref 0), some (dI c), none, none]) (h := [.lst []]) bs dI (by rw [e_lst (ds := bs.map .int) (h1 := [.lst []]) rfl, ii_map]; rfl)
    (fun i env h => ∃ (ds : List Int) (r : Int) (x4 x5 : Option MV), env = [some (dI c), some (.d (li bs)), some (.ref 0), some (dI r), x4, x5] ∧ h = [.lst (ds.map dI)] ∧ ds.length = i ∧ dgOk bs ds)
    ⟨[], c, none, none, rfl, rfl, rfl, fun j hj => by cases hj⟩ (by
      rintro i b env h hi ⟨ds, r, x4, x5, rfl, rfl, hn, ok⟩
      have hib : i < bs.length := (List.getElem?_eq_some_iff.mp hi).1
      obtain ⟨b0, b1⟩ := hb b (List.mem_of_getElem? hi)
      subst hn
      have hl2 : (ds.map dI).length < 100000 := by rw [List.length_map]; omega
      unfold mb__law_digits_1
      by_cases hc : 1000000000000000000 ≤ c
      · refine ⟨_, _, _, rfl, ?_, ds ++ [r % b], r / b, some (dI b), x5, rfl, rfl, by simp, dgOk_snoc ok hi (Int.emod_nonneg _ (by omega)) (Int.emod_lt_of_pos _ b0)⟩
        walk_at "ev"
        rw [e_pow1018]
        walk_at "ev"
        simp only [hc]
        walk_at "ev"
        rw [e_mod b0]
        walk_at "ev"
        simp only [hl2]
        walk_at "ev"
        rw [e_IC (cdiv_ok b0 b1)]
        walk_at "ev"
        rw [List.map_append]; rfl
      · generalize hr : (r * 48271 + 1009 * (ds.length : Int) + 12345) % 2147483647 = r2
        have r20 : 0 ≤ r2 := by rw [← hr]; exact Int.emod_nonneg _ (by decide)
        have r21 : r2 < 2147483647 := by rw [← hr]; exact Int.emod_lt_of_pos _ (by decide)
        refine ⟨_, _, _, rfl, ?_, ds ++ [r2 * r2 % 2147483629 / 13 % b], r2, some (dI b), some (dI (r2 * r2 % 2147483629)), rfl, rfl, by simp, dgOk_snoc ok hi (Int.emod_nonneg _ (by omega)) (Int.emod_lt_of_pos _ b0)⟩
        walk_at "ev"
        rw [e_pow1018]
        walk_at "ev"
        simp only [hc]
        walk_at "ev"
        rw [e_IC (cmul_r (by decide))]
        walk_at "ev"
        rw [e_IC (cmul_l (by decide))]
        walk_at "ev"
        simp only [List.length_map, hr]
        rw [e_IC (cmul_r (by omega))]
        walk_at "ev"
        rw [e_IC (cdiv_ok (by decide) (by decide))]
        walk_at "ev"
        rw [e_mod b0]
        walk_at "ev"
        simp only [hl2]
        walk_at "ev"
        rw [List.map_append]; rfl)
  rw [e]
  walk_at "ev"
  rw [re_li (xs := ds) rfl]
  exact ⟨ds, rfl, hn, ok⟩
theorem q__law_many (ns : List Int) (few many : Int) : pf__law_many [li ns, .int few, .int many] = some (.int few) ∨ pf__law_many [li ns, .int few, .int many] = some (.int many) := by
  unfold pf__law_many m__law_many
  walk_at "ev"
  simp only [List.length_map]
  by_cases h : (0 : Int) < (ns.length : Int)
  · simp only [h]
    walk_at "ev"
    rw [e_ixLi (by decide) h]
    walk_at "ev"
    rw [e_IC (cdiv_ok (by decide) (by decide))]
    walk_at "ev"
    by_cases h2 : ns.getD (Int.toNat 0) 0 / 1009 % 5 = 1
    · simp only [h2]
      walk_at "ev"
      simp
    · simp only [h2]
      walk_at "ev"
      simp
  · simp only [h]
    walk_at "ev"
    simp
theorem set_same {α : Type} {xs : List α} {n : Nat} {x : α} (h : xs[n]? = some x) : xs.set n x = xs := by
  refine List.ext_getElem? fun k => ?_
  by_cases e : n = k
  · subst e
    rw [List.getElem?_set_self (List.getElem?_eq_some_iff.mp h).1, h]
  · rw [List.getElem?_set_ne e]
theorem get_app' {α : Type} {xs ys : List α} {n : Nat} {x : α} (h : xs[n]? = some x) : (xs ++ ys)[n]? = some x := by
  rw [List.getElem?_append_left (List.getElem?_eq_some_iff.mp h).1]; exact h
theorem get_set' {α : Type} {xs : List α} {n : Nat} {x y : α} (h : xs[n]? = some x) : (xs.set n y)[n]? = some y := List.getElem?_set_self (List.getElem?_eq_some_iff.mp h).1
theorem e_ifT {mt : MT} {a b : MS} {env : Env} {h h1 : MH} {r : Option MRes} (e : mt env h = some (true, h1)) (ea : a env h1 = r) : mIfS mt a b env h = r := by
  rw [e_mIfS e]; exact ea
theorem e_ifF {mt : MT} {a b : MS} {env : Env} {h h1 : MH} {r : Option MRes} (e : mt env h = some (false, h1)) (eb : b env h1 = r) : mIfS mt a b env h = r := by
  rw [e_mIfS e]; exact eb
/-! ### pieces of lists -/
theorem cut_from {α : Type} (xs : List α) {k : Int} (h0 : 0 ≤ k) (h1 : k ≤ xs.length) : cutM xs (some k) none = xs.drop k.toNat := by
  unfold cutM
  have e1 : HT.sIx xs.length 0 (some k) = k.toNat := by
    show (if k < 0 then (k + (xs.length : Int)).toNat else min k.toNat xs.length) = _
    rw [if_neg (by omega)]; omega
  have e2 : HT.sIx xs.length xs.length none = xs.length := rfl
  rw [e1, e2]
  exact List.take_of_length_le (by simp)
theorem cut_to {α : Type} (xs : List α) {k : Int} (h0 : 0 ≤ k) : cutM xs none (some k) = xs.take k.toNat := by
  unfold cutM
  have e1 : HT.sIx xs.length 0 none = 0 := rfl
  have e2 : HT.sIx xs.length xs.length (some k) = min k.toNat xs.length := by
    show (if k < 0 then (k + (xs.length : Int)).toNat else min k.toNat xs.length) = _
    rw [if_neg (by omega)]
  rw [e1, e2, List.drop_zero, Nat.sub_zero]
  by_cases h : k.toNat ≤ xs.length
  · rw [Nat.min_eq_left h]
  · rw [Nat.min_eq_right (by omega), List.take_of_length_le (Nat.le_refl _), List.take_of_length_le (by omega)]
theorem e_catD {xs ys : List PyData} {h : MH} (hz : xs.length + ys.length ≤ 100000) : mCatS (.d (.list xs)) (.d (.list ys)) h = some ((xs ++ ys).map .d, h) := by
  unfold mCatS
  rw [if_pos ⟨rfl, rfl⟩, e_itL, Option.bind_some, e_itL, Option.bind_some, if_pos (by simpa using hz), List.map_append]
/-! ### records -/
structure Rc where
  mc : Int
  nb : Int
  ck : List Int
  ld : List Int
  st : List Int
deriving DecidableEq
abbrev rcD (r : Rc) : PyData := .tuple [.int r.mc, .int r.nb, ti r.ck, ti r.ld, ti r.st]
theorem Enc.ti : Enc ti 1 := Enc.int.tup
theorem Enc.li : Enc li 1 := Enc.int.list
theorem Enc.rc : Enc rcD 2 := by
  refine ⟨fun a b => ?_, fun a => ?_, fun a => ?_⟩
  · rw [PyData.eqv, PyData.eqvAll, PyData.eqvAll, PyData.eqvAll, PyData.eqvAll, PyData.eqvAll, PyData.eqvAll, G.eqv_int, G.eqv_int, G.eqv_ti, G.eqv_ti, G.eqv_ti, Bool.and_true, ← Bool.decide_and, ← Bool.decide_and, ← Bool.decide_and, ← Bool.decide_and]
    refine decide_eq_decide.mpr ?_
    cases a; cases b
    simp
  · simp only [PyData.canLay0, PyData.canLayAll0, G.lay_ints, Bool.and_true]
  · have := G.dep_ints a.ck
    have := G.dep_ints a.ld
    have := G.dep_ints a.st
    have h1 := (Enc.ti).dep a.ck
    have h2 := (Enc.ti).dep a.ld
    have h3 := (Enc.ti).dep a.st
    simp only [PyData.depthAll, show ∀ xs, PyData.depth (.tuple xs) = PyData.depthAll xs + 1 from fun xs => by rw [PyData.depth], show ∀ i, PyData.depth (.int i) = 0 from fun i => by rw [PyData.depth]] at *
    omega
theorem noL_ints : ∀ xs : List Int, noLA (xs.map .int) = true
  | [] => rfl
  | x :: xs => by rw [List.map_cons, noLA, noL_ints xs]; rfl
theorem noL_ti (xs : List Int) : noL (ti xs) = true := by rw [noL]; exact noL_ints xs
theorem noL_rc (r : Rc) : noL (rcD r) = true := by
  rw [noL, noLA, noLA, noLA, noLA, noLA, noLA, noL_ti, noL_ti, noL_ti]; rfl
theorem q_each_once (ns : List Int) (h : ns.length < 64) (x : PyData) (hx : x = li ns ∨ x = ti ns) : pf_each_once [x] = some (ti (ascU ns)) := by
  unfold pf_each_once m_each_once ml_each_once_1
  rcases hx with rfl | rfl
  all_goals
    walk_at "ev"
    simp only [mSoSetX]
    walk_at "ev"
    rw [ii_map, intsOf_map]
    walk_at "ev"
    rw [if_pos h]
    walk_at "ev"
    rw [e_allDf]
    walk_at "ev"
theorem q_make_record (p n : Int) (c ls ss : List Int) (h1 : ls.length < 64) (h2 : ss.length < 64) : pf_make_record [.int p, .int n, ti c, li ls, li ss] = some (rcD ⟨p, n, c, ascU ls, ascU ss⟩) := by
  unfold pf_make_record m_make_record ml_make_record_1
  walk_at "ev"
  rw [q_each_once ls h1 _ (.inl rfl)]
  walk_at "ev"
  rw [q_each_once ss h2 _ (.inl rfl)]
  walk_at "ev"
theorem alike_ints : ∀ xs ys : List Int, PySem.W.alikeAll (xs.map .int) (ys.map .int) = true
  | [], [] => by simp [PySem.W.alikeAll]
  | [], y :: ys => by simp [PySem.W.alikeAll]
  | x :: xs, [] => by simp [PySem.W.alikeAll]
  | x :: xs, y :: ys => by
    rw [List.map_cons, List.map_cons, PySem.W.alikeAll, alike_ints xs ys]
    simp [PySem.W.alike]
theorem alike_ti (xs ys : List Int) : PySem.W.alike (ti xs) (ti ys) = true := by
  rw [PySem.W.alike]; exact alike_ints xs ys
theorem alike_rc (a b : Rc) : PySem.W.alike (rcD a) (rcD b) = true := by
  simp only [PySem.W.alike, PySem.W.alikeAll, alike_ints, Bool.and_true]
def cov (r : Rc) (c : List Int) : Bool := decide (r.nb ≤ c.getD r.mc.toNat 0)
theorem q_covers (c : List Int) (m n : Int) (h0 : 0 ≤ m) (h1 : m < c.length) : pf_covers [ti c, .int m, .int n] = some (.bool (decide (n ≤ c.getD m.toNat 0))) := by
  unfold pf_covers m_covers ml_covers_1
  walk_at "ev"
  rw [e_ixTi h0 h1]
  walk_at "ev"
theorem q_is_covered (r : Rc) (c : List Int) (h0 : 0 ≤ r.mc) (h1 : r.mc < c.length) : pf_is_covered [rcD r, ti c] = some (.bool (cov r c)) := by
  unfold pf_is_covered m_is_covered ml_is_covered_1
  walk_at "ev"
  rw [q_covers c r.mc r.nb h0 h1]
  walk_at "ev"
  rfl
abbrev kR (r : Rc) : Int × Int := (r.mc, r.nb)
theorem key_rc (r : Rc) : keyD gl_ascending (rcD r) = kD (kR r) := rfl
theorem keysOk_rc (rs : List Rc) : KeysOk gl_ascending (rs.map rcD) := by
  refine ⟨fun d hd => ?_, fun d hd d' hd' => ?_, .inl fun d hd => ?_⟩
  · obtain ⟨a, _, rfl⟩ := List.mem_map.mp hd
    exact ⟨kD (kR a), rfl, rfl, by rw [de_kD]; decide⟩
  · obtain ⟨x, hx, rfl⟩ := List.mem_map.mp hd
    obtain ⟨a, _, rfl⟩ := List.mem_map.mp hx
    obtain ⟨x', hx', rfl⟩ := List.mem_map.mp hd'
    obtain ⟨b, _, rfl⟩ := List.mem_map.mp hx'
    rw [key_rc, key_rc]
    exact al_kD _ _
  · obtain ⟨x, hx, rfl⟩ := List.mem_map.mp hd
    obtain ⟨a, _, rfl⟩ := List.mem_map.mp hx
    exact ⟨_, _, key_rc a⟩
noncomputable def ascD (rs : List Rc) : List PyData := srtK gl_ascending (rs.map rcD)
theorem q_ascending (TP0 : Addr) (rs : List Rc) (h : MH) (h0 : h[0]? = some (.tab TP0 (qlam "ascending"))) : fn_ascending TP0 [.d (.list (rs.map rcD))] h = some (.d (.list (ascD rs)), h) := by
  unfold fn_ascending m_ascending ml_ascending_1
  walk_at "ev"
  have : mSortLam 0 TP0 (qlam "ascending") gl_ascending (mVar 0) [some (.d (.list (rs.map rcD)))] h = some ((ascD rs).map .d, h) := by
    unfold mSortLam
    rw [show mVar 0 [some (MV.d (.list (rs.map rcD)))] h = some (.d (.list (rs.map rcD)), h) from rfl, Option.bind_some, if_pos ⟨h0, rfl⟩, e_itL, Option.bind_some, e_allDm, Option.bind_some, if_pos (keysOk_rc rs)]
    rfl
  rw [this]
  walk_at "ev"
theorem nodup_inj {α β : Type} {f : α → β} : ∀ {xs : List α}, (xs.map f).Nodup → ∀ {a b : α}, a ∈ xs → b ∈ xs → f a = f b → a = b
  | [], _, _, _, h, _, _ => by cases h
  | x :: xs, hn, a, b, ha, hb, e => by
    rw [List.map_cons, List.nodup_cons] at hn
    rcases List.mem_cons.mp ha with e1 | ha1
    · rcases List.mem_cons.mp hb with e2 | hb1
      · rw [e1, e2]
      · exact absurd (List.mem_map.mpr ⟨b, hb1, by rw [← e, e1]⟩) hn.1
    · rcases List.mem_cons.mp hb with e2 | hb1
      · exact absurd (List.mem_map.mpr ⟨a, ha1, by rw [e, e2]⟩) hn.1
      · exact nodup_inj hn.2 ha1 hb1 e
def asc (rs : List Rc) : List Rc := rs.mergeSort fun a b => !kLt (kR b) (kR a)
theorem ascD_map (rs : List Rc) : ascD rs = (asc rs).map rcD := by
  unfold ascD srtK asc
  rw [List.map_mergeSort (r := fun a b : Rc => !kLt (kR b) (kR a)) (s := PySem.W.dataLe false (keyD gl_ascending)) (f := rcD) (fun a _ b _ => ?_)]
  have e2 := congrFun (congrFun (PySem.W.dataLe_eq false (keyD gl_ascending)) (rcD a)) (rcD b)
  rw [e2]
  show _ = !PySem.W.dataLt (keyD gl_ascending (rcD b)) (keyD gl_ascending (rcD a))
  rw [key_rc, key_rc, lt_kD]
/-! ### the run -/
structure Rw where
  p : Int
  n : Int
  c : List Int
  lo : List Int
  st : List Int
  q : Int
  s : Int
deriving DecidableEq
abbrev rwD (r : Rw) : PyData := .list [.int r.p, .int r.n, ti r.c, li r.lo, li r.st, .tuple [.int r.p, .int r.q, .int r.s]]
theorem Enc.rw7 : Enc rwD 2 := by
  refine ⟨fun a b => ?_, fun a => ?_, fun a => ?_⟩
  · rw [PyData.eqv, PyData.eqvAll, PyData.eqvAll, PyData.eqvAll, PyData.eqvAll, PyData.eqvAll, PyData.eqvAll, PyData.eqvAll, G.eqv_int, G.eqv_int, G.eqv_ti, G.eqv_li, G.eqv_li, show PyData.eqv (.tuple [.int a.p, .int a.q, .int a.s]) (.tuple [.int b.p, .int b.q, .int b.s]) = decide ((a.p, a.q, a.s) = (b.p, b.q, b.s)) from (Enc.int.trip (Enc.int) (Enc.int)).eq (a.p, a.q, a.s) (b.p, b.q, b.s), Bool.and_true, ← Bool.decide_and, ← Bool.decide_and, ← Bool.decide_and, ← Bool.decide_and, ← Bool.decide_and]
    refine decide_eq_decide.mpr ?_
    cases a; cases b
    simp only [Rw.mk.injEq, Prod.mk.injEq]
    constructor
    · rintro ⟨h1, h2, h3, h4, h5, h6, h7, h8⟩; exact ⟨h1, h2, h3, h4, h5, h7, h8⟩
    · rintro ⟨h1, h2, h3, h4, h5, h7, h8⟩; exact ⟨h1, h2, h3, h4, h5, h1, h7, h8⟩
  · simp only [PyData.canLay0, PyData.canLayAll0, G.lay_ints, Bool.and_true]
  · have h1 := (Enc.ti).dep a.c
    have h2 := (Enc.li).dep a.lo
    have h3 := (Enc.li).dep a.st
    simp only [PyData.depthAll, show ∀ xs, PyData.depth (.tuple xs) = PyData.depthAll xs + 1 from fun xs => by rw [PyData.depth], show ∀ xs, PyData.depth (.list xs) = PyData.depthAll xs + 1 from fun xs => by rw [PyData.depth], show ∀ i, PyData.depth (.int i) = 0 from fun i => by rw [PyData.depth]] at *
    omega
theorem digs8 (c m : Int) (hm : 2 ≤ m) (hm2 : m ≤ 4) : ∃ d0 d1 d2 d3 d4 d5 : Int, pf__law_digits [.int c, li [m, m, 4, 8, 8, 3]] = some (.list [.int d0, .int d1, .int d2, .int d3, .int d4, .int d5]) ∧ (0 ≤ d0 ∧ d0 < m) ∧ (0 ≤ d1 ∧ d1 < m) := by
  obtain ⟨ds, e, hl, ok⟩ := q__law_digits c [m, m, 4, 8, 8, 3] (fun b hb => by simp at hb; omega) (by simp)
  match ds, hl with
  | [d0, d1, d2, d3, d4, d5], _ =>
    have a0 := ok 0 (by simp)
    have a1 := ok 1 (by simp)
    simp at a0 a1
    exact ⟨d0, d1, d2, d3, d4, d5, e, a0, a1⟩
def envR (cells : List Int) (m : Int) (x4 x5 x6 x7 x8 x9 x10 x11 x12 : Option MV) : Env := [some (.d (li cells)), some (dI m), some (.ref 0), some (.ref 1), x4, x5, x6, x7, x8, x9, x10, x11, x12, none, none, none]
abbrev rowsO (rs : List Rw) : Ob := .lst (rs.map fun r => .d (rwD r))
abbrev clkO (cs : List (List Int)) : Ob := .lst (cs.map fun c => .d (ti c))
def okW (xs : List Int) : Prop := xs.length ≤ 8 ∧ ∀ w ∈ xs, 0 ≤ w ∧ w < 8
structure RI (m : Int) (k : Nat) (rs : List Rw) (cs : List (List Int)) : Prop where
  len : rs.length = k
  cl : cs.length = m.toNat
  cc : ∀ c ∈ cs, c.length = m.toNat
  rp : ∀ r ∈ rs, 0 ≤ r.p ∧ r.p < m
  rc : ∀ r ∈ rs, r.c.length = m.toNat
  rl : ∀ r ∈ rs, okW r.lo ∧ okW r.st
  lt : ∀ r ∈ rs, r.n < (cs.getD r.p.toNat []).getD r.p.toNat 0
  nd : (rs.map fun r => (r.p, r.n)).Nodup
section
variable {cells : List Int} {m : Int} {x4 x5 x6 x7 x8 x9 x10 x11 x12 : Option MV} {h : MH}
theorem run4 (hm : 2 ≤ m) (hm2 : m ≤ 4) (k : Nat) (hk : k < cells.length) (hk2 : cells.length ≤ 24) (d0 d1 d2 d3 d4 d5 : Int) (e : pf__law_digits [.int (cells.getD k 0 + 5 * (k : Int)), li [m, m, 4, 8, 8, 3]] = some (.list [.int d0, .int d1, .int d2, .int d3, .int d4, .int d5])) :
    ml__law_run_4 (envR cells m x4 x5 (some (dI (k : Int))) x7 x8 x9 x10 x11 x12) h = some (.nx (envR cells m x4 x5 (some (dI (k : Int))) (some (.d (.list [.int d0, .int d1, .int d2, .int d3, .int d4, .int d5]))) x8 x9 x10 x11 x12) h) := by
  unfold ml__law_run_4 envR
  walk_at "ev"
  rw [e_ixLi (by omega) (by omega)]
  walk_at "ev"
  rw [e_IC (cmul_l (by decide))]
  walk_at "ev"
  rw [show PyData.list [.int m, .int m, .int 4, .int 8, .int 8, .int 3] = li [m, m, 4, 8, 8, 3] from rfl, Int.toNat_natCast, e]
  walk_at "ev"
theorem run5 (d0 d1 d2 d3 d4 d5 : Int) :
    ml__law_run_5 (envR cells m x4 x5 x6 (some (.d (.list [.int d0, .int d1, .int d2, .int d3, .int d4, .int d5]))) x8 x9 x10 x11 x12) h = some (.nx (envR cells m (some (dI d1)) (some (dI d0)) x6 (some (.d (.list [.int d0, .int d1, .int d2, .int d3, .int d4, .int d5]))) x8 x9 x10 x11 x12) h) := by
  unfold ml__law_run_5 envR
  walk_at "ev"
theorem run6 (d0 d1 d2 d3 d4 d5 : Int) : ∃ tou : List Int, okW tou ∧
    ml__law_run_6 (envR cells m x4 x5 x6 (some (.d (.list [.int d0, .int d1, .int d2, .int d3, .int d4, .int d5]))) x8 x9 x10 x11 x12) h = some (.nx (envR cells m x4 x5 x6 (some (.d (.list [.int d0, .int d1, .int d2, .int d3, .int d4, .int d5]))) (some (.d (li tou))) x9 x10 x11 x12) h) := by
  refine ⟨((List.range 8).filter fun k : Nat => decide ((k : Int) = d3) || (decide (d5 = 1) && decide ((k : Int) = d4))).map fun k : Nat => (k : Int), ⟨by rw [List.length_map]; exact Nat.le_trans (List.length_filter_le _ _) (by simp), fun w hw => by
    obtain ⟨k, hk, rfl⟩ := List.mem_map.mp hw
    have := List.mem_range.mp (List.mem_filter.mp hk).1
    omega⟩, ?_⟩
  unfold ml__law_run_6 envR
  walk_at "ev"
  rw [mLc_filt (h1 := h) (List.range 8) (fun (k : Nat) => dI (k : Int)) (fun (k : Nat) => dI (k : Int)) (fun k : Nat => decide ((k : Int) = d3) || (decide (d5 = 1) && decide ((k : Int) = d4)))]
  · generalize (List.range 8).filter _ = ks
    rw [show (ks.map fun (k : Nat) => dI (k : Int)) = (ks.map fun k : Nat => (k : Int)).map dI by rw [List.map_map]; rfl]
    generalize ks.map (fun k : Nat => (k : Int)) = ws
    walk_at "ev"
    rw [allD_dI]
    walk_at "ev"
  · exact e_rng1 (n := 8) (h1 := h) rfl (by decide) (by decide)
  · intro k hk
    walk_at "ev"
    by_cases a1 : (k : Int) = d3 <;> by_cases a2 : d5 = 1 <;> simp [a1, a2]
  · intro k hk _
    walk_at "ev"
  · simp
theorem run7 (d0 d1 d2 d3 d4 d5 : Int) (tou : List Int) (ht : okW tou) : ∃ lo : List Int, okW lo ∧
    ml__law_run_7 (envR cells m x4 x5 x6 (some (.d (.list [.int d0, .int d1, .int d2, .int d3, .int d4, .int d5]))) (some (.d (li tou))) x9 x10 x11 x12) h = some (.nx (envR cells m x4 x5 x6 (some (.d (.list [.int d0, .int d1, .int d2, .int d3, .int d4, .int d5]))) (some (.d (li tou))) (some (.d (li lo))) x10 x11 x12) h) := by
  refine ⟨tou.filter fun _ => !decide (d2 = 1), ⟨Nat.le_trans (List.length_filter_le _ _) ht.1, fun w hw => ht.2 w (List.mem_filter.mp hw).1⟩, ?_⟩
  unfold ml__law_run_7 envR
  walk_at "ev"
  rw [mLc_filt (h1 := h) tou dI dI (fun _ => !decide (d2 = 1))]
  · walk_at "ev"
    rw [allD_dI]
    walk_at "ev"
  · rw [e_lst (ds := tou.map .int) (h1 := h) rfl, ii_map]
  · intro k hk
    walk_at "ev"
  · intro k hk _
    walk_at "ev"
  · have := ht.1; omega
theorem run8 (d0 d1 d2 d3 d4 d5 : Int) (tou : List Int) (ht : okW tou) : ∃ st : List Int, okW st ∧
    ml__law_run_8 (envR cells m x4 x5 x6 (some (.d (.list [.int d0, .int d1, .int d2, .int d3, .int d4, .int d5]))) (some (.d (li tou))) x9 x10 x11 x12) h = some (.nx (envR cells m x4 x5 x6 (some (.d (.list [.int d0, .int d1, .int d2, .int d3, .int d4, .int d5]))) (some (.d (li tou))) x9 (some (.d (li st))) x11 x12) h) := by
  refine ⟨tou.filter fun w => decide (d2 = 1) || (decide (d2 = 2) && decide (w = d3)), ⟨Nat.le_trans (List.length_filter_le _ _) ht.1, fun w hw => ht.2 w (List.mem_filter.mp hw).1⟩, ?_⟩
  unfold ml__law_run_8 envR
  walk_at "ev"
  rw [mLc_filt (h1 := h) tou dI dI (fun w => decide (d2 = 1) || (decide (d2 = 2) && decide (w = d3)))]
  · walk_at "ev"
    rw [allD_dI]
    walk_at "ev"
  · rw [e_lst (ds := tou.map .int) (h1 := h) rfl, ii_map]
  · intro k hk
    walk_at "ev"
    by_cases a1 : d2 = 1 <;> by_cases a2 : d2 = 2 <;> simp [a1, a2]
  · intro k hk _
    walk_at "ev"
  · have := ht.1; omega
theorem ixClk {n : Nat} {cs : List (List Int)} (hn : h[n]? = some (clkO cs)) {p : Int} (h0 : 0 ≤ p) (h1 : p < cs.length) : mIx (.ref n) (.d (.int p)) h = some (.d (ti (cs.getD p.toNat [])), h) := by
  refine e_ixR hn ?_
  rw [atI_map, atI_get h0 h1 []]
  rfl
theorem run9 (d0 d1 d2 d3 d4 d5 : Int) (lo st : List Int) (rs : List Rw) (cs : List (List Int)) (h0 : h[0]? = some (rowsO rs)) (h1 : h[1]? = some (clkO cs)) (p0 : 0 ≤ d0) (p1 : d0 < cs.length) (cc : d0 < (cs.getD d0.toNat []).length) (hz : rs.length < 1000) :
    ml__law_run_9 (envR cells m (some (dI d1)) (some (dI d0)) x6 (some (.d (.list [.int d0, .int d1, .int d2, .int d3, .int d4, .int d5]))) x8 (some (.d (li lo))) (some (.d (li st))) x11 x12) h = some (.nx (envR cells m (some (dI d1)) (some (dI d0)) x6 (some (.d (.list [.int d0, .int d1, .int d2, .int d3, .int d4, .int d5]))) x8 (some (.d (li lo))) (some (.d (li st))) x11 x12) (h.set 0 (rowsO (rs ++ [⟨d0, (cs.getD d0.toNat []).getD d0.toNat 0, cs.getD d0.toNat [], lo, st, d1, d5⟩])))) := by
  unfold ml__law_run_9 envR
  walk_at "ev"
  rw [ixClk h1 p0 p1]
  walk_at "ev"
  rw [e_ixTi p0 cc]
  walk_at "ev"
  rw [ixClk h1 p0 p1]
  walk_at "ev"
  rw [e_asL h0]
  walk_at "ev"
  rw [if_pos (by rw [List.length_map]; omega)]
  refine congrArg (fun z => some (MRes.nx _ (List.set h 0 (Ob.lst z)))) ?_
  rw [List.map_append]; rfl
theorem run10 (d0 : Int) (cs : List (List Int)) (h1 : h[1]? = some (clkO cs)) (p0 : 0 ≤ d0) (p1 : d0 < cs.length) :
    ml__law_run_10 (envR cells m x4 (some (dI d0)) x6 x7 x8 x9 x10 x11 x12) h = some (.nx (envR cells m x4 (some (dI d0)) x6 x7 x8 x9 x10 (some (.ref h.length)) x12) (h ++ [.lst ((cs.getD d0.toNat []).map dI)])) := by
  unfold ml__law_run_10 envR
  walk_at "ev"
  rw [ixClk h1 p0 p1]
  walk_at "ev"
  rw [ii_map]
theorem run11 (d0 : Int) (n : Nat) (c : List Int) (hn : h[n]? = some (.lst (c.map dI))) (p0 : 0 ≤ d0) (p1 : d0 < c.length) :
    ml__law_run_11 (envR cells m x4 (some (dI d0)) x6 x7 x8 x9 x10 (some (.ref n)) x12) h = some (.nx (envR cells m x4 (some (dI d0)) x6 x7 x8 x9 x10 (some (.ref n)) x12) (h.set n (.lst ((c.set d0.toNat (c.getD d0.toNat 0 + 1)).map dI)))) := by
  have hi : atI (c.map dI) d0 = some (dI (c.getD d0.toNat 0)) := by rw [atI_map, atI_get p0 p1 0]; rfl
  unfold ml__law_run_11 envR
  walk_at "ev"
  rw [e_ixR hn hi]
  walk_at "ev"
  rw [e_asL hn]
  walk_at "ev"
  rw [G.ixN_ok p0 (by rw [List.length_map]; exact p1), Option.map_some, List.map_set]
end
theorem atI_last {α : Type} (xs : List α) (h : xs ≠ []) : atI xs (-1) = some (xs.getLast h) := by
  have hl : 0 < xs.length := List.length_pos_iff.mpr h
  unfold atI ixN
  rw [if_neg (by decide), if_pos (by omega), Option.bind_some, show ((-1 : Int) + (xs.length : Int)).toNat = xs.length - 1 by omega, List.getLast_eq_getElem]
  exact List.getElem?_eq_getElem (by omega)
section
variable {cells : List Int} {m : Int} {x4 x5 x6 x7 x8 x9 x10 x11 x12 : Option MV} {h : MH}
theorem run12 (hm : 2 ≤ m) (hm2 : m ≤ 4) (d0 d1 d2 d3 d4 d5 : Int) (n : Nat) (c : List Int) (hn : h[n]? = some (.lst (c.map dI))) (n2 : 2 ≤ n) (rs : List Rw) (h0 : h[0]? = some (rowsO rs)) (hz : rs.length < 1000) (cl : c.length = m.toNat) (rc : ∀ r ∈ rs, r.c.length = m.toNat) :
    ∃ (n' : Nat) (c' : List Int) (y12 : Option MV) (h' : MH), ml__law_run_12 (envR cells m (some (dI d1)) (some (dI d0)) x6 (some (.d (.list [.int d0, .int d1, .int d2, .int d3, .int d4, .int d5]))) x8 x9 x10 (some (.ref n)) x12) h = some (.nx (envR cells m (some (dI d1)) (some (dI d0)) x6 (some (.d (.list [.int d0, .int d1, .int d2, .int d3, .int d4, .int d5]))) x8 x9 x10 (some (.ref n')) y12) h') ∧
      h'[n']? = some (.lst (c'.map dI)) ∧ c'.length = m.toNat ∧ (∀ j, j < m.toNat → c.getD j 0 ≤ c'.getD j 0) ∧ ∀ (i : Nat) (x : Ob), h[i]? = some x → h'[i]? = some x := by
  have hc : mc__law_run_12 (envR cells m (some (dI d1)) (some (dI d0)) x6 (some (.d (.list [.int d0, .int d1, .int d2, .int d3, .int d4, .int d5]))) x8 x9 x10 (some (.ref n)) x12) h = some (decide (0 < d5) && !decide (d1 = d0), h) := by
    unfold mc__law_run_12 envR
    walk_at "ev"
    by_cases a1 : 0 < d5 <;> simp [a1]
  cases hb : (decide (0 < d5) && !decide (d1 = d0)) with
  | false =>
    rw [hb] at hc
    exact ⟨n, c, x12, h, by unfold ml__law_run_12; exact e_ifF hc rfl, hn, cl, fun j _ => Int.le_refl _, fun i x z => z⟩
  | true =>
    rw [hb] at hc
    generalize hse : (rs.filter fun r => decide (r.p = d1)) = seen
    have s13 : ml__law_run_13 (envR cells m (some (dI d1)) (some (dI d0)) x6 (some (.d (.list [.int d0, .int d1, .int d2, .int d3, .int d4, .int d5]))) x8 x9 x10 (some (.ref n)) x12) h = some (.nx (envR cells m (some (dI d1)) (some (dI d0)) x6 (some (.d (.list [.int d0, .int d1, .int d2, .int d3, .int d4, .int d5]))) x8 x9 x10 (some (.ref n)) (some (.d (.list (seen.map rwD))))) h) := by
      unfold ml__law_run_13 envR
      walk_at "ev"
      rw [mLc_filtS (h1 := h) (src := [(0, rs.map fun r => .d (rwD r))]) rs (fun r => .d (rwD r)) (fun r => .d (rwD r)) (fun r => decide (r.p = d1)) (e_ref (n := 0) rfl h0) (fun s hs => by rw [List.mem_singleton.mp hs]; exact h0)]
      · rw [hse]
        walk_at "ev"
        rw [e_allDf]
        walk_at "ev"
      · intro r hr
        walk_at "ev"
      · intro r hr _
        walk_at "ev"
      · omega
    have c14 : mc__law_run_14 (envR cells m (some (dI d1)) (some (dI d0)) x6 (some (.d (.list [.int d0, .int d1, .int d2, .int d3, .int d4, .int d5]))) x8 x9 x10 (some (.ref n)) (some (.d (.list (seen.map rwD))))) h = some (!decide (seen = []), h) := by
      unfold mc__law_run_14 envR
      walk_at "ev"
      rw [e_nilR Enc.rw7 (a := seen) (reify_d _ _ _)]
      walk_at "ev"
    by_cases hs : seen = []
    · rw [decide_eq_true hs] at c14
      refine ⟨n, c, some (.d (.list (seen.map rwD))), h, ?_, hn, cl, fun j _ => Int.le_refl _, fun i x z => z⟩
      unfold ml__law_run_12
      refine e_ifT hc ?_
      rw [e_mSeq s13]
      unfold ml__law_run_14
      exact e_ifF c14 rfl
    · rw [decide_eq_false hs] at c14
      obtain ⟨r, hr⟩ : ∃ r, r = seen.getLast hs := ⟨_, rfl⟩
      have hrm : r ∈ rs := by
        have : r ∈ seen := by rw [hr]; exact List.getLast_mem hs
        rw [← hse] at this
        exact (List.mem_filter.mp this).1
      have hrl := rc r hrm
      have hlast : atI (seen.map rwD) (-1) = some (rwD r) := by rw [atI_map, atI_last seen hs, ← hr]; rfl
      have s15 : ml__law_run_15 (envR cells m (some (dI d1)) (some (dI d0)) x6 (some (.d (.list [.int d0, .int d1, .int d2, .int d3, .int d4, .int d5]))) x8 x9 x10 (some (.ref n)) (some (.d (.list (seen.map rwD))))) h = some (.nx (envR cells m (some (dI d1)) (some (dI d0)) x6 (some (.d (.list [.int d0, .int d1, .int d2, .int d3, .int d4, .int d5]))) x8 x9 x10 (some (.ref h.length)) (some (.d (.list (seen.map rwD))))) (h ++ [.lst (((List.range m.toNat).map fun k => max (c.getD k 0) (r.c.getD k 0)).map dI)])) := by
        unfold ml__law_run_15 envR
        walk_at "ev"
        rw [mLc_map (h1 := h) (List.range m.toNat) (fun (k : Nat) => dI (k : Int)) (fun (k : Nat) => dI (max (c.getD k 0) (r.c.getD k 0)))]
        · walk_at "ev"
          rw [List.map_map]
          rfl
        · exact e_rng1 (n := m) (h1 := h) rfl (by omega) (by omega)
        · intro k hk
          have hk' := List.mem_range.mp hk
          have hi : atI (c.map dI) (k : Int) = some (dI (c.getD k 0)) := by rw [atI_map, atI_get (by omega) (by omega) 0]; rfl
          walk_at "ev"
          rw [e_ixR hn hi]
          walk_at "ev"
          rw [e_ixL hlast]
          walk_at "ev"
          rw [e_ixTi (by omega) (by omega)]
          walk_at "ev"
          rfl
        · simp; omega
      refine ⟨h.length, (List.range m.toNat).map fun k => max (c.getD k 0) (r.c.getD k 0), some (.d (.list (seen.map rwD))), h ++ [.lst (((List.range m.toNat).map fun k => max (c.getD k 0) (r.c.getD k 0)).map dI)], ?_, by rw [List.getElem?_append_right (Nat.le_refl _), Nat.sub_self]; rfl, by simp, fun j hj => ?_, fun i x z => ?_⟩
      · unfold ml__law_run_12
        refine e_ifT hc ?_
        rw [e_mSeq s13]
        unfold ml__law_run_14
        exact e_ifT c14 s15
      · have : ((List.range m.toNat).map fun k => max (c.getD k 0) (r.c.getD k 0)).getD j 0 = max (c.getD j 0) (r.c.getD j 0) := by rw [List.getD_eq_getElem?_getD, List.getElem?_map, List.getElem?_range hj]; rfl
        rw [this]
        exact Int.le_max_left _ _
      · rw [List.getElem?_append_left (List.getElem?_eq_some_iff.mp z).1]; exact z
theorem run16 (d0 : Int) (n : Nat) (c : List Int) (cs : List (List Int)) (hn : h[n]? = some (.lst (c.map dI))) (h1 : h[1]? = some (clkO cs)) (p0 : 0 ≤ d0) (p1 : d0 < cs.length) :
    ml__law_run_16 (envR cells m x4 (some (dI d0)) x6 x7 x8 x9 x10 (some (.ref n)) x12) h = some (.nx (envR cells m x4 (some (dI d0)) x6 x7 x8 x9 x10 (some (.ref n)) x12) (h.set 1 (clkO (cs.set d0.toNat c)))) := by
  unfold ml__law_run_16 envR
  walk_at "ev"
  rw [e_itR hn]
  walk_at "ev"
  rw [show mkTup (c.map dI) = .d (ti c) by rw [← ii_map]; exact mkTup_d _]
  rw [e_asL h1]
  walk_at "ev"
  rw [G.ixN_ok p0 (by rw [List.length_map]; exact p1), Option.map_some]
  refine congrArg (fun z => some (MRes.nx _ (List.set h 1 (Ob.lst z)))) ?_
  rw [List.map_set]
end
theorem getD_set' {α : Type} (xs : List α) (i j : Nat) (v d : α) (h : i < xs.length) : (xs.set i v).getD j d = if j = i then v else xs.getD j d := by
  rw [List.getD_eq_getElem?_getD, List.getD_eq_getElem?_getD]
  by_cases e : j = i
  · subst e; rw [if_pos rfl, List.getElem?_set_self h]; rfl
  · rw [if_neg e, List.getElem?_set_ne (fun z => e z.symm)]
theorem getD_mem' {α : Type} (xs : List α) (i : Nat) (d : α) (h : i < xs.length) : xs.getD i d ∈ xs := by
  rw [List.getD_eq_getElem?_getD, List.getElem?_eq_getElem h]; exact List.getElem_mem h
theorem RI.step {m : Int} {k : Nat} {rs : List Rw} {cs : List (List Int)} (I : RI m k rs cs) (hm : 2 ≤ m) {d0 d1 d5 : Int} {lo st c' : List Int} (p0 : 0 ≤ d0) (p1 : d0 < m) (hlo : okW lo) (hst : okW st) (cl : c'.length = m.toNat)
    (hc : ∀ j, j < m.toNat → ((cs.getD d0.toNat []).set d0.toNat ((cs.getD d0.toNat []).getD d0.toNat 0 + 1)).getD j 0 ≤ c'.getD j 0) :
    RI m (k + 1) (rs ++ [⟨d0, (cs.getD d0.toNat []).getD d0.toNat 0, cs.getD d0.toNat [], lo, st, d1, d5⟩]) (cs.set d0.toNat c') := by
  have hd : d0.toNat < cs.length := by rw [I.cl]; omega
  have hcc : (cs.getD d0.toNat []).length = m.toNat := I.cc _ (getD_mem' cs _ _ hd)
  have up : (cs.getD d0.toNat []).getD d0.toNat 0 < c'.getD d0.toNat 0 := by
    have := hc d0.toNat (by omega)
    rw [getD_set' _ _ _ _ _ (by omega), if_pos rfl] at this
    omega
  have old : ∀ r ∈ rs, r.n < ((cs.set d0.toNat c').getD r.p.toNat []).getD r.p.toNat 0 := fun r hr => by
    have := I.lt r hr
    rw [getD_set' _ _ _ _ _ hd]
    by_cases e : r.p.toNat = d0.toNat
    · rw [if_pos e, e]
      rw [e] at this
      omega
    · rw [if_neg e]; exact this
  have nw : ∀ r ∈ rs, r.p = d0 → r.n = (cs.getD d0.toNat []).getD d0.toNat 0 → False := fun r hr e1 e2 => by
    have := I.lt r hr
    rw [e1] at this
    omega
  refine ⟨by simp [I.len], by rw [List.length_set]; exact I.cl, fun c hm' => ?_, fun r hr => ?_, fun r hr => ?_, fun r hr => ?_, fun r hr => ?_, ?_⟩
  · rcases List.mem_or_eq_of_mem_set hm' with z | z
    · exact I.cc c z
    · rw [z]; exact cl
  · rcases List.mem_append.mp hr with z | z
    · exact I.rp r z
    · rw [List.mem_singleton.mp z]; exact ⟨p0, p1⟩
  · rcases List.mem_append.mp hr with z | z
    · exact I.rc r z
    · rw [List.mem_singleton.mp z]; exact hcc
  · rcases List.mem_append.mp hr with z | z
    · exact I.rl r z
    · rw [List.mem_singleton.mp z]; exact ⟨hlo, hst⟩
  · rcases List.mem_append.mp hr with z | z
    · exact old r z
    · rw [List.mem_singleton.mp z]
      show (cs.getD d0.toNat []).getD d0.toNat 0 < ((cs.set d0.toNat c').getD d0.toNat []).getD d0.toNat 0
      rw [getD_set' cs d0.toNat d0.toNat c' [] hd, if_pos rfl]
      exact up
  · rw [List.map_append]
    refine List.nodup_append.mpr ⟨I.nd, by simp, fun x hx y hy e => ?_⟩
    obtain ⟨r, hr, rfl⟩ := List.mem_map.mp hx
    rw [List.map_singleton, List.mem_singleton] at hy
    rw [hy] at e
    exact nw r hr (congrArg Prod.fst e) (congrArg Prod.snd e)
section
variable {cells : List Int} {m : Int} {x4 x5 x7 x8 x9 x10 x11 x12 : Option MV} {h : MH}
theorem run_body (hm : 2 ≤ m) (hm2 : m ≤ 4) (k : Nat) (hk : k < cells.length) (hk2 : cells.length ≤ 24) (rs : List Rw) (cs : List (List Int)) (h0 : h[0]? = some (rowsO rs)) (h1 : h[1]? = some (clkO cs)) (I : RI m k rs cs) :
    ∃ (y4 y5 y7 y8 y9 y10 y11 y12 : Option MV) (h' : MH) (rs' : List Rw) (cs' : List (List Int)), mb__law_run_3 (envR cells m x4 x5 (some (dI (k : Int))) x7 x8 x9 x10 x11 x12) h = some (.nx (envR cells m y4 y5 (some (dI (k : Int))) y7 y8 y9 y10 y11 y12) h') ∧ h'[0]? = some (rowsO rs') ∧ h'[1]? = some (clkO cs') ∧ RI m (k + 1) rs' cs' := by
  obtain ⟨d0, d1, d2, d3, d4, d5, e, ⟨p0, p1⟩, q0, q1⟩ := digs8 (cells.getD k 0 + 5 * (k : Int)) m hm hm2
  have hd : d0 < cs.length := by rw [I.cl]; omega
  have hcc : (cs.getD d0.toNat []).length = m.toNat := I.cc _ (getD_mem' cs _ _ (by omega))
  have hz : rs.length < 1000 := by rw [I.len]; omega
  obtain ⟨tou, ht, s6⟩ := run6 (cells := cells) (m := m) (x4 := some (dI d1)) (x5 := some (dI d0)) (x6 := some (dI (k : Int))) (x9 := x9) (x10 := x10) (x11 := x11) (x12 := x12) (h := h) d0 d1 d2 d3 d4 d5
  obtain ⟨lo, hlo, s7⟩ := run7 (cells := cells) (m := m) (x4 := some (dI d1)) (x5 := some (dI d0)) (x6 := some (dI (k : Int))) (x10 := x10) (x11 := x11) (x12 := x12) (h := h) d0 d1 d2 d3 d4 d5 tou ht
  obtain ⟨st, hst, s8⟩ := run8 (cells := cells) (m := m) (x4 := some (dI d1)) (x5 := some (dI d0)) (x6 := some (dI (k : Int))) (x9 := some (.d (li lo))) (x11 := x11) (x12 := x12) (h := h) d0 d1 d2 d3 d4 d5 tou ht
  obtain ⟨rs', hrs'⟩ : ∃ rs', rs' = rs ++ [⟨d0, (cs.getD d0.toNat []).getD d0.toNat 0, cs.getD d0.toNat [], lo, st, d1, d5⟩] := ⟨_, rfl⟩
  have s9 := run9 (cells := cells) (m := m) (x6 := some (dI (k : Int))) (x8 := some (.d (li tou))) (x11 := x11) (x12 := x12) (h := h) d0 d1 d2 d3 d4 d5 lo st rs cs h0 h1 p0 hd (by omega) hz
  rw [← hrs'] at s9
  have l0 := (List.getElem?_eq_some_iff.mp h0).1
  have l1 := (List.getElem?_eq_some_iff.mp h1).1
  have g0 : (h.set 0 (rowsO rs'))[0]? = some (rowsO rs') := List.getElem?_set_self l0
  have g1 : (h.set 0 (rowsO rs'))[1]? = some (clkO cs) := by rw [List.getElem?_set_ne (by decide)]; exact h1
  generalize h.set 0 (rowsO rs') = hA at s9 g0 g1
  have s10 := run10 (cells := cells) (m := m) (x4 := some (dI d1)) (x6 := some (dI (k : Int))) (x7 := some (.d (.list [.int d0, .int d1, .int d2, .int d3, .int d4, .int d5]))) (x8 := some (.d (li tou))) (x9 := some (.d (li lo))) (x10 := some (.d (li st))) (x11 := x11) (x12 := x12) (h := hA) d0 cs g1 p0 hd
  have lA0 := (List.getElem?_eq_some_iff.mp g0).1
  have lA1 := (List.getElem?_eq_some_iff.mp g1).1
  obtain ⟨c, hcc2⟩ : ∃ c, c = cs.getD d0.toNat [] := ⟨_, rfl⟩
  rw [← hcc2] at s10 hcc
  have b0 : (hA ++ [Ob.lst (c.map dI)])[0]? = some (rowsO rs') := by rw [List.getElem?_append_left lA0]; exact g0
  have b1 : (hA ++ [Ob.lst (c.map dI)])[1]? = some (clkO cs) := by rw [List.getElem?_append_left lA1]; exact g1
  have b2 : (hA ++ [Ob.lst (c.map dI)])[hA.length]? = some (.lst (c.map dI)) := by rw [List.getElem?_append_right (Nat.le_refl _), Nat.sub_self]; rfl
  obtain ⟨n, hn⟩ : ∃ n, n = hA.length := ⟨_, rfl⟩
  rw [← hn] at s10 b2
  have n2 : 2 ≤ n := by omega
  generalize hA ++ [Ob.lst (c.map dI)] = hB at s10 b0 b1 b2
  have s11 := run11 (cells := cells) (m := m) (x4 := some (dI d1)) (x6 := some (dI (k : Int))) (x7 := some (.d (.list [.int d0, .int d1, .int d2, .int d3, .int d4, .int d5]))) (x8 := some (.d (li tou))) (x9 := some (.d (li lo))) (x10 := some (.d (li st))) (x12 := x12) (h := hB) d0 n c b2 p0 (by omega)
  have lB2 := (List.getElem?_eq_some_iff.mp b2).1
  have e0 : (hB.set n (.lst ((c.set d0.toNat (c.getD d0.toNat 0 + 1)).map dI)))[0]? = some (rowsO rs') := by rw [List.getElem?_set_ne (by omega)]; exact b0
  have e1 : (hB.set n (.lst ((c.set d0.toNat (c.getD d0.toNat 0 + 1)).map dI)))[1]? = some (clkO cs) := by rw [List.getElem?_set_ne (by omega)]; exact b1
  have e2 : (hB.set n (.lst ((c.set d0.toNat (c.getD d0.toNat 0 + 1)).map dI)))[n]? = some (.lst ((c.set d0.toNat (c.getD d0.toNat 0 + 1)).map dI)) := List.getElem?_set_self lB2
  generalize hB.set n (.lst ((c.set d0.toNat (c.getD d0.toNat 0 + 1)).map dI)) = hC at s11 e0 e1 e2
  have len' : ∀ r ∈ rs', r.c.length = m.toNat := fun r hr => by
    rw [hrs'] at hr
    rcases List.mem_append.mp hr with z | z
    · exact I.rc r z
    · rw [List.mem_singleton.mp z]; show (cs.getD d0.toNat []).length = _; rw [← hcc2]; exact hcc
  obtain ⟨n', c', y12, hD, s12, f1, f2, f3, f4⟩ := run12 (cells := cells) (m := m) (x6 := some (dI (k : Int))) (x8 := some (.d (li tou))) (x9 := some (.d (li lo))) (x10 := some (.d (li st))) (x12 := x12) (h := hC) hm hm2 d0 d1 d2 d3 d4 d5 n _ e2 n2 rs' e0 (by rw [hrs', List.length_append, I.len]; simp; omega) (by rw [List.length_set]; exact hcc) len'
  have k0 := f4 0 _ e0
  have k1 := f4 1 _ e1
  have s16 := run16 (cells := cells) (m := m) (x4 := some (dI d1)) (x6 := some (dI (k : Int))) (x7 := some (.d (.list [.int d0, .int d1, .int d2, .int d3, .int d4, .int d5]))) (x8 := some (.d (li tou))) (x9 := some (.d (li lo))) (x10 := some (.d (li st))) (x12 := y12) (h := hD) d0 n' c' cs f1 k1 p0 hd
  have lD1 := (List.getElem?_eq_some_iff.mp k1).1
  refine ⟨some (dI d1), some (dI d0), some (.d (.list [.int d0, .int d1, .int d2, .int d3, .int d4, .int d5])), some (.d (li tou)), some (.d (li lo)), some (.d (li st)), some (.ref n'), y12, hD.set 1 (clkO (cs.set d0.toNat c')), rs', cs.set d0.toNat c', ?_, ?_, ?_, ?_⟩
  · unfold mb__law_run_3
    rw [e_mSeq (run4 hm hm2 k hk hk2 d0 d1 d2 d3 d4 d5 e), e_mSeq (run5 d0 d1 d2 d3 d4 d5), e_mSeq s6, e_mSeq s7, e_mSeq s8, e_mSeq s9, e_mSeq s10, e_mSeq s11, e_mSeq s12]
    exact s16
  · rw [List.getElem?_set_ne (by decide)]; exact k0
  · exact List.getElem?_set_self lD1
  · rw [hrs']
    rw [hcc2] at f3
    exact I.step hm p0 p1 hlo hst f2 f3
def fCk (n : Nat) : List (List Int) := (List.range n).map fun p => (List.range n).map fun q => if p = q then 1 else 0
theorem q__law_run (cells : List Int) (m : Int) (hm : 2 ≤ m) (hm2 : m ≤ 4) (hk2 : cells.length ≤ 24) : ∃ (rs : List Rw) (cs : List (List Int)), pf__law_run [li cells, .int m] = some (.list (rs.map rwD)) ∧ RI m cells.length rs cs := by
  have s1 : ml__law_run_1 [some (.d (li cells)), some (dI m), none, none, none, none, none, none, none, none, none, none, none, none, none, none] [] = some (.nx [some (.d (li cells)), some (dI m), some (.ref 0), none, none, none, none, none, none, none, none, none, none, none, none, none] [.lst []]) := by
    unfold ml__law_run_1
    walk_at "ev"
  have s2 : ml__law_run_2 [some (.d (li cells)), some (dI m), some (.ref 0), none, none, none, none, none, none, none, none, none, none, none, none, none] [.lst []] = some (.nx (envR cells m none none none none none none none none none) [.lst [], clkO (fCk m.toNat)]) := by
    unfold ml__law_run_2 envR
    walk_at "ev"
    rw [mLc_map (h1 := [.lst []]) (List.range m.toNat) (fun (p : Nat) => dI (p : Int)) (fun (p : Nat) => .d (ti ((List.range m.toNat).map fun q => if p = q then (1 : Int) else 0)))]
    · walk_at "ev"
      unfold fCk clkO
      rw [List.map_map]
      rfl
    · exact e_rng1 (n := m) (h1 := [.lst []]) rfl (by omega) (by omega)
    · intro p hp
      walk_at "ev"
      rw [mLc_map (h1 := [.lst []]) (List.range m.toNat) (fun (q : Nat) => dI (q : Int)) (fun (q : Nat) => dI (if p = q then (1 : Int) else 0))]
      · rw [show ((List.range m.toNat).map fun (q : Nat) => dI (if p = q then (1 : Int) else 0)) = ((List.range m.toNat).map fun q => if p = q then (1 : Int) else 0).map dI by rw [List.map_map]; rfl]
        generalize ((List.range m.toNat).map fun q => if p = q then (1 : Int) else 0) = ws
        walk_at "ev"
        rw [allD_dI]
        walk_at "ev"
      · exact e_rng1 (n := m) (h1 := [.lst []]) rfl (by omega) (by omega)
      · intro q hq
        walk_at "ev"
        by_cases a : p = q
        · subst a; simp
        · have : ¬ ((p : Int) = (q : Int)) := fun z => a (by exact_mod_cast z)
          simp [a, this]
      · simp; omega
    · simp; omega
  have R0 : RI m 0 [] (fCk m.toNat) := by
    refine ⟨rfl, by simp [fCk], fun c hc => ?_, (fun r hr => nomatch hr), (fun r hr => nomatch hr), (fun r hr => nomatch hr), (fun r hr => nomatch hr), by simp⟩
    obtain ⟨p, _, rfl⟩ := List.mem_map.mp hc
    simp
  obtain ⟨env', h', e, rs, cs, y4, y5, y6, y7, y8, y9, y10, y11, y12, rfl, g0, g1, R⟩ := mFor_inv (mi := mRng1 (mCons (mCB mLen (mCons (mVar 0) mNil)) mNil)) (g := mgName 6) (mb := mb__law_run_3)
    (env := envR cells m none none none none none none none none none) (h := [.lst [], clkO (fCk m.toNat)]) (List.range cells.length) (fun (k : Nat) => dI (k : Int)) (h1 := [.lst [], clkO (fCk m.toNat)])
    (by
      have := e_rng1 (ma := mCons (mCB mLen (mCons (mVar 0) mNil)) mNil) (env := envR cells m none none none none none none none none none) (h := [.lst [], clkO (fCk m.toNat)]) (h1 := [.lst [], clkO (fCk m.toNat)]) (n := (cells.length : Int)) (by
        unfold envR
        walk_at "ev"
        simp only [List.length_map]) (by omega) (by omega)
      rw [Int.toNat_natCast] at this
      exact this)
    (fun i env h => ∃ (rs : List Rw) (cs : List (List Int)) (y4 y5 y6 y7 y8 y9 y10 y11 y12 : Option MV), env = envR cells m y4 y5 y6 y7 y8 y9 y10 y11 y12 ∧ h[0]? = some (rowsO rs) ∧ h[1]? = some (clkO cs) ∧ RI m i rs cs)
    ⟨[], fCk m.toNat, none, none, none, none, none, none, none, none, none, rfl, rfl, rfl, R0⟩ (by
      rintro i k env h hi ⟨rs, cs, y4, y5, y6, y7, y8, y9, y10, y11, y12, rfl, g0, g1, R⟩
      obtain ⟨hlt, hk⟩ := List.getElem?_eq_some_iff.mp hi
      rw [List.getElem_range] at hk
      subst hk
      rw [List.length_range] at hlt
      obtain ⟨z4, z5, z7, z8, z9, z10, z11, z12, h', rs', cs', e, g0', g1', R'⟩ := run_body (x4 := y4) (x5 := y5) (x7 := y7) (x8 := y8) (x9 := y9) (x10 := y10) (x11 := y11) (x12 := y12) hm hm2 i hlt hk2 rs cs g0 g1 R
      exact ⟨_, _, _, rfl, e, rs', cs', z4, z5, _, z7, z8, z9, z10, z11, z12, rfl, g0', g1', R'⟩)
  rw [List.length_range] at R
  refine ⟨rs, cs, ?_, R⟩
  have s3 : ml__law_run_3 (envR cells m none none none none none none none none none) [.lst [], clkO (fCk m.toNat)] = some (.nx (envR cells m y4 y5 y6 y7 y8 y9 y10 y11 y12) h') := e
  unfold pf__law_run m__law_run
  walk_at "ev"
  rw [s1, Option.bind_some, e_seqN, e_mSeq s2, e_mSeq s3]
  unfold ml__law_run_17 envR
  walk_at "ev"
  rw [re_lst rwD g0]
end
/-! ### orders and pairs -/
theorem strict_eq {α : Type} {lt : α → α → Prop} (irr : ∀ a, ¬ lt a a) (tr : ∀ {a b c}, lt a b → lt b c → lt a c) : ∀ {xs ys : List α}, xs.Pairwise lt → ys.Pairwise lt → (∀ a, a ∈ xs ↔ a ∈ ys) → xs = ys
  | [], [], _, _, _ => rfl
  | [], y :: ys, _, _, h => by have := (h y).mpr (List.mem_cons_self); cases this
  | x :: xs, [], _, _, h => by have := (h x).mp (List.mem_cons_self); cases this
  | x :: xs, y :: ys, hx, hy, h => by
    rw [List.pairwise_cons] at hx hy
    have e : x = y := by
      rcases List.mem_cons.mp ((h x).mp List.mem_cons_self) with z | z
      · exact z
      · rcases List.mem_cons.mp ((h y).mpr List.mem_cons_self) with z2 | z2
        · exact z2.symm
        · exact absurd (tr (hx.1 y z2) (hy.1 x z)) (irr x)
    subst e
    congr 1
    refine strict_eq irr tr hx.2 hy.2 fun a => ?_
    have := h a
    simp only [List.mem_cons] at this
    constructor
    · intro m
      rcases this.mp (.inr m) with z | z
      · subst z; exact absurd (hx.1 a m) (irr a)
      · exact z
    · intro m
      rcases this.mpr (.inr m) with z | z
      · subst z; exact absurd (hy.1 a m) (irr a)
      · exact z
def kLtP (a b : Int × Int) : Prop := a.1 < b.1 ∨ (a.1 = b.1 ∧ a.2 < b.2)
theorem kLt_iff (a b : Int × Int) : kLt a b = true ↔ kLtP a b := by
  unfold kLt kLtP; simp
theorem kLtP_irr (a : Int × Int) : ¬ kLtP a a := by unfold kLtP; omega
theorem kLtP_tr {a b c : Int × Int} (h : kLtP a b) (g : kLtP b c) : kLtP a c := by unfold kLtP at *; omega
theorem kLtP_tot {a b : Int × Int} (h : ¬ kLtP a b) (n : a ≠ b) : kLtP b a := by
  unfold kLtP at *
  by_cases e : a.1 = b.1
  · by_cases f : a.2 = b.2
    · exact absurd (Prod.ext e f) n
    · omega
  · omega
theorem kLtP_ntr {a b c : Int × Int} (h : ¬ kLtP b a) (g : ¬ kLtP c b) : ¬ kLtP c a := by unfold kLtP at *; omega
/-- keys of papers -/
abbrev PK := Int × (Int × Int) × (Int × Int)
def tLtP (a b : PK) : Prop := a.1 < b.1 ∨ (a.1 = b.1 ∧ (kLtP a.2.1 b.2.1 ∨ (a.2.1 = b.2.1 ∧ kLtP a.2.2 b.2.2)))
instance (a b : PK) : Decidable (tLtP a b) := by unfold tLtP kLtP; infer_instance
theorem tLtP_irr (a : PK) : ¬ tLtP a a := by
  rintro (h | ⟨_, h | ⟨_, h⟩⟩)
  · omega
  · exact kLtP_irr _ h
  · exact kLtP_irr _ h
theorem tLtP_tr {a b c : PK} (h : tLtP a b) (g : tLtP b c) : tLtP a c := by
  rcases h with h | ⟨h1, h | ⟨h2, h⟩⟩ <;> rcases g with g | ⟨g1, g | ⟨g2, g⟩⟩
  · exact .inl (by omega)
  · exact .inl (by omega)
  · exact .inl (by omega)
  · exact .inl (by omega)
  · exact .inr ⟨h1.trans g1, .inl (kLtP_tr h g)⟩
  · exact .inr ⟨h1.trans g1, .inl (g2 ▸ h)⟩
  · exact .inl (by omega)
  · exact .inr ⟨h1.trans g1, .inl (h2 ▸ g)⟩
  · exact .inr ⟨h1.trans g1, .inr ⟨h2.trans g2, kLtP_tr h g⟩⟩
theorem tLtP_tot {a b : PK} (h : ¬ tLtP a b) (n : a ≠ b) : tLtP b a := by
  obtain ⟨a0, a1, a2⟩ := a
  obtain ⟨b0, b1, b2⟩ := b
  unfold tLtP at *
  simp only at *
  by_cases e : a0 = b0
  · subst e
    refine .inr ⟨rfl, ?_⟩
    by_cases f : a1 = b1
    · subst f
      refine .inr ⟨rfl, kLtP_tot (fun z => h (.inr ⟨rfl, .inr ⟨rfl, z⟩⟩)) fun z => n (by rw [z])⟩
    · exact .inl (kLtP_tot (fun z => h (.inr ⟨rfl, .inl z⟩)) f)
  · refine .inl ?_
    by_cases q : a0 < b0
    · exact absurd (.inl q) h
    · omega
theorem tLtP_ntr {a b c : PK} (h : ¬ tLtP b a) (g : ¬ tLtP c b) : ¬ tLtP c a := by
  by_cases e1 : a = b
  · subst e1; exact g
  by_cases e2 : b = c
  · subst e2; exact h
  exact fun z => tLtP_irr _ (tLtP_tr z (tLtP_tr (tLtP_tot h (Ne.symm e1)) (tLtP_tot g (Ne.symm e2))))
theorem srt_strict {α κ : Type} {lt : κ → κ → Prop} [∀ a b, Decidable (lt a b)] (irr : ∀ a, ¬ lt a a) (tot : ∀ {a b}, ¬ lt a b → a ≠ b → lt b a) (asy : ∀ {a b}, lt a b → ¬ lt b a) (ntr : ∀ {a b c}, ¬ lt b a → ¬ lt c b → ¬ lt c a) (k : α → κ) (xs : List α) (nd : (xs.map k).Nodup) :
    (xs.mergeSort fun a b => !decide (lt (k b) (k a))).Pairwise fun a b => lt (k a) (k b) := by
  have h1 := List.pairwise_mergeSort (le := fun a b : α => !decide (lt (k b) (k a))) (fun a b c h g => by simp only [Bool.not_eq_true', decide_eq_false_iff_not] at *; exact ntr h g) (fun a b => by
    simp only [Bool.or_eq_true, Bool.not_eq_true', decide_eq_false_iff_not]
    by_cases h : lt (k b) (k a)
    · exact .inr (asy h)
    · exact .inl h) xs
  have h2 : ((xs.mergeSort fun a b => !decide (lt (k b) (k a))).map k).Nodup := ((List.mergeSort_perm xs _).map k).nodup_iff.mpr nd
  rw [List.Nodup, List.pairwise_map] at h2
  refine (h1.and h2).imp fun {a b} h => ?_
  simp only [Bool.not_eq_true', decide_eq_false_iff_not] at h
  exact tot h.1 (Ne.symm h.2)
/-- all pairs of places -/
def prs {α : Type} : List α → List (α × α)
  | [] => []
  | x :: xs => xs.map (fun y => (x, y)) ++ prs xs
theorem prs_mem {α : Type} {lt : α → α → Prop} (irr : ∀ a, ¬ lt a a) (asy : ∀ {a b}, lt a b → ¬ lt b a) : ∀ {xs : List α}, xs.Pairwise lt → ∀ a b, (a, b) ∈ prs xs ↔ a ∈ xs ∧ b ∈ xs ∧ lt a b
  | [], _, a, b => by simp [prs]
  | x :: xs, h, a, b => by
    rw [List.pairwise_cons] at h
    rw [prs, List.mem_append, prs_mem irr asy h.2 a b, List.mem_map, List.mem_cons, List.mem_cons]
    constructor
    · rintro (⟨y, hy, e⟩ | ⟨h1, h2, h3⟩)
      · cases e; exact ⟨.inl rfl, .inr hy, h.1 _ hy⟩
      · exact ⟨.inr h1, .inr h2, h3⟩
    · rintro ⟨h1 | h1, h2 | h2, h3⟩
      · subst h1; subst h2; exact absurd h3 (irr _)
      · subst h1; exact .inl ⟨b, h2, rfl⟩
      · subst h2; exact absurd h3 (asy (h.1 a h1))
      · exact .inr ⟨h1, h2, h3⟩
theorem prs_sub {α : Type} : ∀ {xs : List α} {q : α × α}, q ∈ prs xs → q.1 ∈ xs ∧ q.2 ∈ xs
  | [], q, h => by cases h
  | x :: xs, q, h => by
    rw [prs, List.mem_append] at h
    rcases h with h | h
    · obtain ⟨y, hy, rfl⟩ := List.mem_map.mp h
      exact ⟨List.mem_cons_self, List.mem_cons_of_mem _ hy⟩
    · exact ⟨List.mem_cons_of_mem _ (prs_sub h).1, List.mem_cons_of_mem _ (prs_sub h).2⟩
theorem prs_lex {α : Type} {lt : α → α → Prop} : ∀ {xs : List α}, xs.Pairwise lt → (prs xs).Pairwise fun p q => lt p.1 q.1 ∨ (p.1 = q.1 ∧ lt p.2 q.2)
  | [], _ => List.Pairwise.nil
  | x :: xs, h => by
    rw [List.pairwise_cons] at h
    rw [prs, List.pairwise_append]
    refine ⟨?_, prs_lex h.2, fun p hp q hq => ?_⟩
    · rw [List.pairwise_map]
      exact h.2.imp fun z => .inr ⟨rfl, z⟩
    · obtain ⟨y, hy, rfl⟩ := List.mem_map.mp hp
      exact .inl (h.1 _ (prs_sub hq).1)
theorem prs_at {α β : Type} (z : α) (f : α → α → β) : ∀ (xs : List α) (k : Nat) (ys : List α), k = ys.length → (pairsN k xs.length).map (fun q => f ((ys ++ xs).getD q.1 z) ((ys ++ xs).getD q.2 z)) = (prs xs).map fun q => f q.1 q.2
  | [], k, ys, _ => rfl
  | x :: xs, k, ys, hk => by
    rw [List.length_cons, pairsN, prs, List.map_append, List.map_append]
    have ih := prs_at z f xs (k + 1) (ys ++ [x]) (by simp [hk])
    rw [List.append_assoc, List.singleton_append] at ih
    rw [ih]
    congr 1
    subst hk
    rw [List.map_map, List.map_map]
    refine List.ext_getElem? fun i => ?_
    by_cases hi : i < xs.length
    · simp [hi, List.getD_eq_getElem?_getD, List.getElem?_append_right, show ys.length ≤ ys.length + 1 + i by omega, show ys.length + 1 + i - ys.length = i + 1 by omega]
    · rw [List.getElem?_eq_none (by simp; omega), List.getElem?_eq_none (by simp; omega)]
theorem prs_len {α : Type} : ∀ (xs : List α), (prs xs).length ≤ xs.length * xs.length
  | [] => by simp [prs]
  | x :: xs => by
    have := prs_len xs
    rw [prs, List.length_append, List.length_map, List.length_cons, Nat.mul_add, Nat.add_mul]
    omega
/-! ### sides -/
abbrev kd (s : Bool) : PyData := .str (if s then "store" else "load")
theorem Enc.kd : Enc kd 0 := ⟨fun a b => by cases a <;> cases b <;> decide, fun a => by rw [PyData.canLay0]; cases a <;> decide +kernel, fun a => by rw [PyData.depth]; exact Nat.le_refl _⟩
def uses (w : Int) (r : Rc) : Bool := decide (w ∈ r.ld) || decide (w ∈ r.st)
abbrev isSt (w : Int) (r : Rc) : Bool := decide (w ∈ r.st)
abbrev sdD (w : Int) (r : Rc) : PyData := .tuple [.int r.mc, .int r.nb, ti r.ck, kd (isSt w r)]
theorem re_d (n : Nat) (h : MH) (d : PyData) : reify n h (.d d) = some d := reify_d _ _ _
theorem in_ti {w : Int} {xs : List Int} {h : MH} : mInX false (.d (.int w)) (.d (ti xs)) h = some (.d (.bool (decide (w ∈ xs))), h) := by
  rw [e_inX Enc.int (a := w) (bs := xs) (reify_d _ _ _) (.inr (reify_d _ _ _))]
  rfl
theorem q_kind_of (r : Rc) (w : Int) (hu : uses w r = true) : pf_kind_of [rcD r, .int w] = some (kd (isSt w r)) := by
  unfold pf_kind_of m_kind_of ml_kind_of_1 ml_kind_of_3
  walk_at "ev"
  unfold mc_kind_of_1 mc_kind_of_3
  walk_at "ev"
  rw [in_ti]
  by_cases h1 : w ∈ r.st
  · unfold ml_kind_of_2
    simp only [h1, decide_true]
    walk_at "ev"
    simp [h1]
  · have h2 : w ∈ r.ld := by
      unfold uses at hu
      simpa [h1] using hu
    simp only [h1, decide_false]
    walk_at "ev"
    rw [in_ti]
    unfold ml_kind_of_4
    simp only [h2, decide_true]
    walk_at "ev"
    simp [h1]
def bef (a b : Rc) : Bool := decide (a.nb ≤ b.ck.getD a.mc.toNat 0) && !(decide (a.mc = b.mc) && decide (a.nb = b.nb))
theorem q_is_same (w : Int) (a b : Rc) : pf_is_same [sdD w a, sdD w b] = some (.bool (decide (a.mc = b.mc) && decide (a.nb = b.nb))) := by
  unfold pf_is_same m_is_same ml_is_same_1
  walk_at "ev"
  by_cases h1 : a.mc = b.mc <;> by_cases h2 : a.nb = b.nb <;> first | (simp [h1, h2]; done) | (simp [h1, h2]; rfl)
theorem q_is_cov (w : Int) (a : Rc) (c : List Int) (h0 : 0 ≤ a.mc) (h1 : a.mc < c.length) : pf_is_covered [sdD w a, ti c] = some (.bool (decide (a.nb ≤ c.getD a.mc.toNat 0))) := by
  unfold pf_is_covered m_is_covered ml_is_covered_1
  walk_at "ev"
  rw [q_covers c a.mc a.nb h0 h1]
  walk_at "ev"
theorem q_is_before (w : Int) (a b : Rc) (h0 : 0 ≤ a.mc) (h1 : a.mc < b.ck.length) : pf_is_before [sdD w a, sdD w b] = some (.bool (bef a b)) := by
  unfold pf_is_before m_is_before ml_is_before_1
  walk_at "ev"
  rw [q_is_cov w a b.ck h0 h1]
  walk_at "ev"
  rw [q_is_same]
  unfold bef
  walk_at "ev"
  cases decide (a.nb ≤ b.ck.getD a.mc.toNat 0) <;> first | (simp; done) | (simp; rfl)
def unord (a b : Rc) : Bool := !decide (a.mc = b.mc) && !bef a b && !bef b a
theorem q_are_unordered (w : Int) (a b : Rc) (ha : 0 ≤ a.mc ∧ a.mc < b.ck.length) (hb : 0 ≤ b.mc ∧ b.mc < a.ck.length) : pf_are_unordered [sdD w a, sdD w b] = some (.bool (unord a b)) := by
  unfold pf_are_unordered m_are_unordered ml_are_unordered_1
  walk_at "ev"
  unfold mc_are_unordered_1 ml_are_unordered_2
  walk_at "ev"
  unfold unord
  by_cases h1 : a.mc = b.mc
  · simp only [h1, decide_true]
    walk_at "ev"
    simp
  · simp only [h1, decide_false]
    unfold ml_are_unordered_3
    walk_at "ev"
    rw [q_is_before w a b ha.1 ha.2]
    walk_at "ev"
    rw [q_is_before w b a hb.1 hb.2]
    walk_at "ev"
    cases bef a b <;> first | (simp; done) | (simp; rfl)
def race (w : Int) (a b : Rc) : Bool := (isSt w a || isSt w b) && unord a b
theorem q_do_race (w : Int) (a b : Rc) (ha : 0 ≤ a.mc ∧ a.mc < b.ck.length) (hb : 0 ≤ b.mc ∧ b.mc < a.ck.length) : pf_do_race [sdD w a, sdD w b] = some (.bool (race w a b)) := by
  unfold pf_do_race m_do_race ml_do_race_1
  walk_at "ev"
  have := e_inX Enc.kd (neg := false) (a := true) (bs := [isSt w a, isSt w b]) (h := []) (x := .d (.str "store")) (y := .d (.tuple [kd (isSt w a), kd (isSt w b)])) (reify_d _ _ _) (.inr (reify_d _ _ _))
  rw [this]
  walk_at "ev"
  rw [q_are_unordered w a b ha hb]
  walk_at "ev"
  unfold race
  cases isSt w a <;> cases isSt w b <;> first | (simp; done) | (simp; rfl)
abbrev ppD (w : Int) (a b : Rc) : PyData := .tuple [.int w, sdD w a, sdD w b]
/-! ### sides_of -/
def words (r : Rc) : List Int := ascU (r.ld ++ r.st)
theorem mem_words (w : Int) (r : Rc) : w ∈ words r ↔ uses w r = true := by
  unfold words uses
  rw [mem_ascU, List.mem_append]
  simp
theorem nd_le {α : Type} [DecidableEq α] : ∀ {xs ys : List α}, xs.Nodup → (∀ x ∈ xs, x ∈ ys) → xs.length ≤ ys.length
  | [], _, _, _ => Nat.zero_le _
  | x :: xs, ys, h, s => by
    have hx := s x List.mem_cons_self
    have h' := List.nodup_cons.mp h
    have ih := nd_le (ys := ys.erase x) h'.2 (fun y hy => (List.mem_erase_of_ne (fun e => h'.1 (by rw [← e]; exact hy))).mpr (s y (List.mem_cons_of_mem _ hy)))
    rw [List.length_erase_of_mem hx] at ih
    have := List.length_pos_of_mem hx
    rw [List.length_cons]
    omega
theorem le8 {ws : List Int} (nd : ws.Nodup) (hb : ∀ w ∈ ws, 0 ≤ w ∧ w < 8) : ws.length ≤ 8 :=
  nd_le (ys := [0, 1, 2, 3, 4, 5, 6, 7]) nd fun w hw => by
    have := hb w hw
    simp only [List.mem_cons, List.not_mem_nil, or_false]
    omega
abbrev kvs (loc : Int → Nat) (ws : List Int) : List (Key × MV) := ws.map fun w => ((.inl w : Key), MV.ref (loc w))
theorem valG_ws (loc : Int → Nat) (w : Int) : ∀ ws : List Int, valG (kvs loc ws) (.inl w) = if w ∈ ws then some (.ref (loc w)) else none
  | [] => rfl
  | v :: ws => by
    rw [kvs, List.map_cons, valG_cons, valG_ws loc w ws]
    by_cases e : v = w
    · subst e; simp
    · simp only [Sum.inl.injEq, e, if_false, List.mem_cons]
      by_cases m : w ∈ ws
      · simp [m]
      · rw [if_neg m, if_neg (fun z => z.elim (fun z => e z.symm) m)]
theorem putG_ws (loc : Int → Nat) (w : Int) (n : Nat) (ws : List Int) (hw : w ∉ ws) : putG (kvs loc ws) (.inl w) (.ref n) = kvs (fun v => if v = w then n else loc v) (ws ++ [w]) := by
  unfold putG hasG
  rw [valG_ws, if_neg hw, kvs, kvs, List.map_append]
  simp only [Option.isSome_none, Bool.false_eq_true, if_false, List.map_cons, List.map_nil, if_true]
  congr 1
  refine List.map_congr_left fun v hv => ?_
  rw [if_neg (fun e : v = w => hw (e ▸ hv))]
theorem intKeys_ws (loc : Int → Nat) : ∀ ws : List Int, intKeys ((kvs loc ws).map (·.1)) = some ws
  | [] => rfl
  | w :: ws => by
    have := intKeys_ws loc ws
    rw [kvs, List.map_cons, List.map_cons, intKeys, this]; rfl
abbrev sdO (w : Int) (rs : List Rc) : Ob := .lst (rs.map fun r => .d (sdD w r))
structure SJ (h0 : MH) (S : Int → List Rc) (h : MH) (ws : List Int) (loc : Int → Nat) : Prop where
  old : ∀ n, n < h0.length → h[n]? = h0[n]?
  dct : h[h0.length]? = some (.dct (kvs loc ws))
  nd : ws.Nodup
  gt : ∀ w ∈ ws, h0.length < loc w
  inj : ∀ w ∈ ws, ∀ v ∈ ws, loc w = loc v → w = v
  val : ∀ w ∈ ws, h[loc w]? = some (sdO w (S w))
  mem : ∀ w, w ∈ ws ↔ S w ≠ []
def SI (h0 : MH) (S : Int → List Rc) (h : MH) : Prop := ∃ ws loc, SJ h0 S h ws loc
def envS (x0 : Option MV) (n0 : Nat) (r : Rc) (x8 : Option MV) : Env := [x0, some (.ref n0), some (.d (rcD r)), some (dI r.mc), some (dI r.nb), some (.d (ti r.ck)), some (.d (ti r.ld)), some (.d (ti r.st)), x8]
section
variable {TP0 : Addr} {x0 : Option MV}
theorem sd_app (n0 n : Nat) (r : Rc) (w : Int) (hu : uses w r = true) (S : List Rc) (h h' : MH) (hS : S.length < 1000)
    (e : mDSetd (mVar 1) (mVar 8) (mNew (mLst mNil)) (envS x0 n0 r (some (dI w))) h = some (.ref n, h')) (hn : h'[n]? = some (sdO w S)) :
    ml_sides_of_5 TP0 (envS x0 n0 r (some (dI w))) h = some (.nx (envS x0 n0 r (some (dI w))) (h'.set n (sdO w (S ++ [r])))) := by
  unfold ml_sides_of_5 mApp
  rw [e, Option.bind_some, e_asL hn, Option.bind_some]
  unfold envS
  walk_at "ev"
  rw [q_kind_of r w hu]
  walk_at "ev"
  rw [e_asL hn]
  walk_at "ev"
  rw [if_pos (by rw [List.length_map]; omega), sdO, List.map_append]
  rfl
theorem sd_step (h0 : MH) (S : Int → List Rc) (h : MH) (s : SI h0 S h) (r : Rc) (w : Int) (hu : uses w r = true) (hw : 0 ≤ w ∧ w < 8) (hS : ∀ v, S v ≠ [] → 0 ≤ v ∧ v < 8) (hl : (S w).length < 1000) :
    ∃ h', ml_sides_of_5 TP0 (envS x0 h0.length r (some (dI w))) h = some (.nx (envS x0 h0.length r (some (dI w))) h') ∧ SI h0 (fun v => if v = w then S w ++ [r] else S v) h' := by
  obtain ⟨ws, loc, J⟩ := s
  have l0 := (List.getElem?_eq_some_iff.mp J.dct).1
  have g0 : (h ++ [Ob.lst []])[h0.length]? = some (.dct (kvs loc ws)) := by rw [List.getElem?_append_left l0]; exact J.dct
  have l8 : (kvs loc ws).length < 100000 := by
    have := le8 J.nd fun w hw => hS w ((J.mem w).mp hw)
    rw [List.length_map]; omega
  by_cases m : w ∈ ws
  · have ed : mDSetd (mVar 1) (mVar 8) (mNew (mLst mNil)) (envS x0 h0.length r (some (dI w))) h = some (.ref (loc w), h ++ [.lst []]) := by
      unfold mDSetd envS
      simp only [e_mVar, mNew, mLst, mNil, List.getElem?_cons_zero, List.getElem?_cons_succ, Option.bind_some, Option.map_some, e_asK J.dct, e_asK g0, e_keyI, List.length_nil, Nat.zero_le, if_true]
      walk_at "ev"
      rw [valG_ws, if_pos m]
      simp only [l8, if_true, e_asK g0, Option.bind_some]
    have lw := (List.getElem?_eq_some_iff.mp (J.val w m)).1
    have gw : (h ++ [Ob.lst []])[loc w]? = some (sdO w (S w)) := by rw [List.getElem?_append_left lw]; exact J.val w m
    refine ⟨_, sd_app _ _ r w hu (S w) h _ hl ed gw, ws, loc, ?_⟩
    have gt := J.gt w m
    refine ⟨fun n hn => ?_, ?_, J.nd, J.gt, J.inj, fun v hv => ?_, fun v => ?_⟩
    · rw [List.getElem?_set_ne (by omega), List.getElem?_append_left (by omega)]; exact J.old n hn
    · rw [List.getElem?_set_ne (by omega)]; exact g0
    · by_cases e : v = w
      · subst e
        rw [if_pos rfl, List.getElem?_set_self (by simp; omega)]
      · have lv := (List.getElem?_eq_some_iff.mp (J.val v hv)).1
        rw [if_neg e, List.getElem?_set_ne (fun z => e (J.inj v hv w m z.symm)), List.getElem?_append_left lv]
        exact J.val v hv
    · by_cases e : v = w
      · subst e; simp [m]
      · simp only [if_neg e]; exact J.mem v
  · have em : S w = [] := Classical.not_not.mp fun z => m ((J.mem w).mpr z)
    have ed : mDSetd (mVar 1) (mVar 8) (mNew (mLst mNil)) (envS x0 h0.length r (some (dI w))) h = some (.ref h.length, (h ++ [Ob.lst []]).set h0.length (.dct (putG (kvs loc ws) (.inl w) (.ref h.length)))) := by
      unfold mDSetd envS
      simp only [e_mVar, mNew, mLst, mNil, List.getElem?_cons_zero, List.getElem?_cons_succ, Option.bind_some, Option.map_some, e_asK J.dct, e_asK g0, e_keyI, List.length_nil, Nat.zero_le, if_true]
      walk_at "ev"
      rw [valG_ws, if_neg m]
      simp only [l8, if_true, e_asK g0, Option.bind_some]
    have gw : ((h ++ [Ob.lst []]).set h0.length (.dct (putG (kvs loc ws) (.inl w) (.ref h.length))))[h.length]? = some (sdO w []) := by
      rw [List.getElem?_set_ne (by omega), List.getElem?_append_right (Nat.le_refl _), Nat.sub_self]; rfl
    refine ⟨_, sd_app _ _ r w hu [] h _ (by decide) ed gw, ws ++ [w], fun v => if v = w then h.length else loc v, ?_⟩
    have lo : ∀ v ∈ ws, loc v < h.length := fun v hv => (List.getElem?_eq_some_iff.mp (J.val v hv)).1
    have ne : ∀ v ∈ ws, v ≠ w := fun v hv z => m (z ▸ hv)
    refine ⟨fun n hn => ?_, ?_, ?_, fun v hv => ?_, fun v hv u hu' => ?_, fun v hv => ?_, fun v => ?_⟩
    · rw [List.getElem?_set_ne (by omega), List.getElem?_set_ne (by omega), List.getElem?_append_left (by omega)]; exact J.old n hn
    · rw [List.getElem?_set_ne (by omega), List.getElem?_set_self (by simp; omega), putG_ws _ _ _ _ m]
    · exact List.nodup_append.mpr ⟨J.nd, by simp, fun u hu v hv => by rw [List.mem_singleton.mp hv]; exact fun z => m (z ▸ hu)⟩
    · rcases List.mem_append.mp hv with hv | hv
      · rw [if_neg (ne v hv)]; exact J.gt v hv
      · rw [if_pos (List.mem_singleton.mp hv)]; exact l0
    · rcases List.mem_append.mp hv with hv | hv <;> rcases List.mem_append.mp hu' with hu' | hu'
      · rw [if_neg (ne v hv), if_neg (ne u hu')]; exact J.inj v hv u hu'
      · have := lo v hv
        rw [if_neg (ne v hv), if_pos (List.mem_singleton.mp hu')]; omega
      · have := lo u hu'
        rw [if_neg (ne u hu'), if_pos (List.mem_singleton.mp hv)]; omega
      · intro _; rw [List.mem_singleton.mp hv, List.mem_singleton.mp hu']
    · rcases List.mem_append.mp hv with hv | hv
      · have := lo v hv
        have := J.gt v hv
        rw [if_neg (ne v hv), if_neg (ne v hv), List.getElem?_set_ne (by omega), List.getElem?_set_ne (by omega), List.getElem?_append_left (by omega)]
        exact J.val v hv
      · have e := List.mem_singleton.mp hv
        subst e
        rw [if_pos rfl, if_pos rfl, em, List.getElem?_set_self (by simp)]
    · by_cases e : v = w
      · subst e; simp
      · simp only [List.mem_append, List.mem_singleton, e, or_false, if_false]; exact J.mem v
end
/-! ### the loops of sides_of -/
structure okR (m : Int) (r : Rc) : Prop where
  m0 : 0 ≤ r.mc
  m1 : r.mc < m
  ck : r.ck.length = m.toNat
  ld : r.ld.length ≤ 8
  st : r.st.length ≤ 8
  us : ∀ w, uses w r = true → 0 ≤ w ∧ w < 8
theorem words_nd (r : Rc) : (words r).Nodup := (ascU_asc _).imp fun h => by omega
theorem take_succ' {α : Type} {xs : List α} {i : Nat} {x : α} (h : xs[i]? = some x) : xs.take (i + 1) = xs.take i ++ [x] := by
  rw [List.take_succ, h]; rfl
theorem nd_take {α : Type} {xs : List α} {i : Nat} {x : α} (nd : xs.Nodup) (h : xs[i]? = some x) : x ∉ xs.take i := fun m => by
  have := (List.take_append_drop (i + 1) xs) ▸ nd
  rw [take_succ' h] at this
  have := (List.nodup_append.mp this).1
  exact (List.nodup_append.mp this).2.2 x m x (by simp) rfl
section
variable {TP0 : Addr} {x0 : Option MV}
theorem sd_row (m : Int) (h0 : MH) (S : Int → List Rc) (h : MH) (s : SI h0 S h) (r : Rc) (ok : okR m r) (hS : ∀ v, S v ≠ [] → 0 ≤ v ∧ v < 8) (hl : ∀ v, (S v).length < 1000) (y3 y4 y5 y6 y7 y8 : Option MV) :
    ∃ z8 h', mb_sides_of_2 TP0 [x0, some (.ref h0.length), some (.d (rcD r)), y3, y4, y5, y6, y7, y8] h = some (.nx (envS x0 h0.length r z8) h') ∧ SI h0 (fun v => if uses v r = true then S v ++ [r] else S v) h' := by
  have s3 : ml_sides_of_3 TP0 [x0, some (.ref h0.length), some (.d (rcD r)), y3, y4, y5, y6, y7, y8] h = some (.nx (envS x0 h0.length r y8) h) := by
    unfold ml_sides_of_3 envS
    walk_at "ev"
  obtain ⟨env', h', e, z8, rfl, J⟩ := mFor_inv (mi := mItT (mCB (liftD pf_each_once) (mCons (mOp mCatT (mVar 6) (mVar 7)) mNil))) (g := mgName 8) (mb := mb_sides_of_4 TP0)
    (env := envS x0 h0.length r y8) (h := h) (words r) dI (h1 := h)
    (by
      rw [show (words r).map dI = ((words r).map PyData.int).map .d by rw [List.map_map]; rfl]
      refine e_tup ?_
      unfold envS
      walk_at "ev"
      simp only [mCatT]
      rw [if_pos (by rw [List.length_map, List.length_map]; have := ok.ld; have := ok.st; omega)]
      walk_at "ev"
      rw [← List.map_append, q_each_once (r.ld ++ r.st) (by rw [List.length_append]; have := ok.ld; have := ok.st; omega) _ (.inr rfl)]
      walk_at "ev"
      rfl)
    (fun i env h => ∃ z8, env = envS x0 h0.length r z8 ∧ SI h0 (fun v => if v ∈ (words r).take i then S v ++ [r] else S v) h)
    ⟨y8, rfl, by simpa using s⟩ (by
      rintro i w env h hi ⟨z8, rfl, J⟩
      have hw : w ∈ words r := List.mem_of_getElem? hi
      have hu := (mem_words w r).mp hw
      have nw := nd_take (words_nd r) hi
      have hb : ∀ v, v ∈ (words r).take i → 0 ≤ v ∧ v < 8 := fun v hv => ok.us v ((mem_words v r).mp (List.mem_of_mem_take hv))
      obtain ⟨h', e, J'⟩ := sd_step (TP0 := TP0)  (x0 := x0) h0 _ h J r w hu (ok.us w hu) (fun v hv => by
        by_cases q : v ∈ (words r).take i
        · exact hb v q
        · rw [if_neg q] at hv; exact hS v hv) (by rw [if_neg nw]; exact hl w)
      refine ⟨_, _, h', rfl, e, some (dI w), rfl, ?_⟩
      have : (fun v => if v ∈ (words r).take (i + 1) then S v ++ [r] else S v) = fun v => if v = w then (if w ∈ (words r).take i then S w ++ [r] else S w) ++ [r] else (if v ∈ (words r).take i then S v ++ [r] else S v) := by
        funext v
        simp only [take_succ' hi, List.mem_append, List.mem_singleton]
        by_cases q : v = w
        · subst q; simp [nw]
        · simp [q]
      rw [this]
      exact J')
  rw [List.take_length] at J
  refine ⟨z8, h', ?_, ?_⟩
  · unfold mb_sides_of_2
    rw [e_mSeq s3]
    exact e
  · simp only [mem_words] at J
    exact J
theorem q_sides_of (m : Int) (rs : List Rc) (ok : ∀ r ∈ rs, okR m r) (hz : rs.length ≤ 100) (h : MH) (h0 : h[0]? = some (.tab TP0 (qlam "ascending"))) :
    ∃ h', fn_sides_of TP0 [.d (.list (rs.map rcD))] h = some (.ref h.length, h') ∧ SI h (fun v => (asc rs).filter (uses v)) h' := by
  have hp : (asc rs).Perm rs := List.mergeSort_perm _ _
  have hA : ∀ r ∈ asc rs, okR m r := fun r hr => ok r (hp.mem_iff.mp hr)
  have hlA : (asc rs).length ≤ 100 := by rw [hp.length_eq]; exact hz
  have s1 : ml_sides_of_1 TP0 [some (.d (.list (rs.map rcD))), none, none, none, none, none, none, none, none] h = some (.nx [some (.d (.list (rs.map rcD))), some (.ref h.length), none, none, none, none, none, none, none] (h ++ [.dct []])) := by
    unfold ml_sides_of_1
    walk_at "ev"
  have g0 : (h ++ [Ob.dct []])[0]? = some (.tab TP0 (qlam "ascending")) := by rw [List.getElem?_append_left (List.getElem?_eq_some_iff.mp h0).1]; exact h0
  obtain ⟨env', h', e, z2, z3, z4, z5, z6, z7, z8, rfl, J⟩ := mFor_inv (mi := mItL (mCB (fn_ascending TP0) (mCons (mVar 0) mNil))) (g := mgName 2) (mb := mb_sides_of_2 TP0)
    (env := [some (.d (.list (rs.map rcD))), some (.ref h.length), none, none, none, none, none, none, none]) (h := h ++ [.dct []]) (asc rs) (fun r => .d (rcD r)) (h1 := h ++ [.dct []])
    (by
      rw [show (asc rs).map (fun r => MV.d (rcD r)) = ((asc rs).map rcD).map .d by rw [List.map_map]; rfl, ← ascD_map]
      refine e_lst ?_
      walk_at "ev"
      rw [q_ascending TP0 rs _ g0])
    (fun i env h1 => ∃ z2 z3 z4 z5 z6 z7 z8, env = [some (.d (.list (rs.map rcD))), some (.ref h.length), z2, z3, z4, z5, z6, z7, z8] ∧ SI h (fun v => ((asc rs).take i).filter (uses v)) h1)
    ⟨none, none, none, none, none, none, none, rfl, [], fun _ => 0, ⟨fun n hn => List.getElem?_append_left hn, by rw [List.getElem?_append_right (Nat.le_refl _), Nat.sub_self]; rfl, List.nodup_nil, (fun _ q => nomatch q), (fun _ q => nomatch q), (fun _ q => nomatch q), fun w => by simp⟩⟩ (by
      rintro i r env h1 hi ⟨z2, z3, z4, z5, z6, z7, z8, rfl, J⟩
      have hr : r ∈ asc rs := List.mem_of_getElem? hi
      obtain ⟨y8, h2, e, J'⟩ := sd_row (TP0 := TP0)  (x0 := some (.d (.list (rs.map rcD)))) m h _ h1 J r (hA r hr) (fun v hv => by
        obtain ⟨a, ha⟩ := List.exists_mem_of_ne_nil _ hv
        have ha := List.mem_filter.mp ha
        exact (hA a (List.mem_of_mem_take ha.1)).us v ha.2) (fun v => by
          have := List.length_filter_le (uses v) ((asc rs).take i)
          rw [List.length_take] at this
          omega) z3 z4 z5 z6 z7 z8
      refine ⟨_, _, h2, rfl, e, _, _, _, _, _, _, _, rfl, ?_⟩
      have : (fun v => ((asc rs).take (i + 1)).filter (uses v)) = fun v => if uses v r = true then ((asc rs).take i).filter (uses v) ++ [r] else ((asc rs).take i).filter (uses v) := by
        funext v
        rw [take_succ' hi, List.filter_append]
        by_cases q : uses v r = true <;> simp [q]
      rw [this]
      exact J')
  rw [List.take_length] at J
  refine ⟨h', ?_, J⟩
  have s2 : ml_sides_of_2 TP0 [some (.d (.list (rs.map rcD))), some (.ref h.length), none, none, none, none, none, none, none] (h ++ [.dct []]) = some (.nx [some (.d (.list (rs.map rcD))), some (.ref h.length), z2, z3, z4, z5, z6, z7, z8] h') := e
  unfold fn_sides_of m_sides_of
  walk_at "ev"
  rw [s1, Option.bind_some, e_seqN, e_mSeq s2]
  unfold ml_sides_of_6
  walk_at "ev"
end
/-! ### papers_of, report -/
theorem prs_map {α β : Type} (g : α → β) : ∀ xs : List α, prs (xs.map g) = (prs xs).map fun q => (g q.1, g q.2)
  | [] => rfl
  | x :: xs => by
    rw [List.map_cons, prs, prs, prs_map g xs, List.map_append, List.map_map, List.map_map]
    rfl
theorem e_cmb {env : Env} {h : MH} {n : Nat} {w : Int} {S : List Rc} (he : env[1]? = some (some (.ref n))) (hn : h[n]? = some (sdO w S)) :
    mCmb (mCons (mVar 1) (mCons (mK (.int 2)) mNil)) env h = some (([], (prs S).map fun q => .d (.tuple [sdD w q.1, sdD w q.2])), h) := by
  have e1 : (mCons (mVar 1) (mCons (mK (.int 2)) mNil)) env h = some ([.ref n, .d (.int 2)], h) := by
    have hv : mVar 1 env h = some (.ref n, h) := by unfold mVar; rw [he]
    simp only [mCons, mNil, mK, hv, Option.bind_some, Option.map_some]
  have e2 : itemsOf h (.ref n) = some (S.map fun r => .d (sdD w r)) := by
    show (asL h (.ref n)).map (fun x => x.2) = _
    rw [e_asL hn]; rfl
  unfold mCmb
  rw [e1, Option.bind_some, e_argsTT, Option.bind_some, if_pos ⟨rfl, rfl⟩, e2, Option.map_some]
  have := prs_at (MV.d .none) pairM (S.map fun r => .d (sdD w r)) 0 [] rfl
  rw [List.nil_append] at this
  rw [this, prs_map, List.map_map]
  rfl
abbrev pD (t : Int × Rc × Rc) : PyData := ppD t.1 t.2.1 t.2.2
def PW (w : Int) (S : List Rc) : List (Int × Rc × Rc) := ((prs S).filter fun q => race w q.1 q.2).map fun q => (w, q.1, q.2)
theorem PW_len (w : Int) (S : List Rc) (hz : S.length ≤ 100) : (PW w S).length ≤ 10000 := by
  have h1 := List.length_filter_le (fun q => race w q.1 q.2) (prs S)
  have h2 := prs_len S
  have h3 := Nat.mul_le_mul hz hz
  rw [PW, List.length_map]
  omega
theorem ok_race {m : Int} {w : Int} {a b : Rc} (ha : okR m a) (hb : okR m b) : pf_do_race [sdD w a, sdD w b] = some (.bool (race w a b)) :=
  q_do_race w a b ⟨ha.m0, by have := ha.m1; have := hb.ck; omega⟩ ⟨hb.m0, by have := hb.m1; have := ha.ck; omega⟩
theorem q_papers_of (m : Int) (w : Int) (S : List Rc) (ok : ∀ r ∈ S, okR m r) (hz : S.length ≤ 100) (n : Nat) (h : MH) (hn : h[n]? = some (sdO w S)) :
    fn_papers_of [.d (.int w), .ref n] h = some (.ref h.length, h ++ [.lst ((PW w S).map fun t => .d (pD t))]) := by
  unfold fn_papers_of m_papers_of ml_papers_of_1
  walk_at "ev"
  rw [mLc_filt (h1 := h) (prs S) (fun q => .d (.tuple [sdD w q.1, sdD w q.2])) (fun q => .d (ppD w q.1 q.2)) (fun q => race w q.1 q.2)]
  · walk_at "ev"
    unfold PW
    rw [List.map_map]
    rfl
  · exact e_cmb rfl hn
  · intro q hq
    have := prs_sub hq
    walk_at "ev"
    rw [ok_race (ok _ this.1) (ok _ this.2)]
    walk_at "ev"
  · intro q hq _
    walk_at "ev"
  · have := prs_len S
    have := Nat.mul_le_mul hz hz
    omega
theorem fm_len {α β : Type} {f : α → List β} {n : Nat} : ∀ {xs : List α}, (∀ x ∈ xs, (f x).length ≤ n) → (xs.flatMap f).length ≤ xs.length * n
  | [], _ => by simp
  | x :: xs, h => by
    have := fm_len (f := f) (n := n) fun y hy => h y (List.mem_cons_of_mem _ hy)
    have := h x List.mem_cons_self
    rw [List.flatMap_cons, List.length_append, List.length_cons, Nat.add_mul]
    omega
def PT (rs : List Rc) (W : List Int) : List (Int × Rc × Rc) := W.flatMap fun w => PW w ((asc rs).filter (uses w))
section
variable {TP0 : Addr}
theorem q_report (m : Int) (rs : List Rc) (ok : ∀ r ∈ rs, okR m r) (hz : rs.length ≤ 100) (h : MH) (h0 : h[0]? = some (.tab TP0 (qlam "ascending"))) :
    ∃ (p : Nat) (h' : MH) (W : List Int), fn_report TP0 [.d (.list (rs.map rcD))] h = some (.ref p, h') ∧ h'[p]? = some (.lst ((PT rs W).map fun t => .d (pD t))) ∧ (∀ n, n < h.length → h'[n]? = h[n]?) ∧ W.Pairwise (· < ·) ∧ ∀ w, w ∈ W ↔ (asc rs).filter (uses w) ≠ [] := by
  have hp : (asc rs).Perm rs := List.mergeSort_perm _ _
  have hA : ∀ r ∈ asc rs, okR m r := fun r hr => ok r (hp.mem_iff.mp hr)
  have hlA : (asc rs).length ≤ 100 := by rw [hp.length_eq]; exact hz
  have okS : ∀ w, ∀ r ∈ (asc rs).filter (uses w), okR m r := fun w r hr => hA r (List.mem_filter.mp hr).1
  have lnS : ∀ w, ((asc rs).filter (uses w)).length ≤ 100 := fun w => Nat.le_trans (List.length_filter_le _ _) hlA
  obtain ⟨h1, e1, ws, loc, J⟩ := q_sides_of (TP0 := TP0)  m rs ok hz h h0
  have hb : ∀ w ∈ ws, 0 ≤ w ∧ w < 8 := fun w hw => by
    obtain ⟨a, ha⟩ := List.exists_mem_of_ne_nil _ ((J.mem w).mp hw)
    exact (okS w a ha).us w (List.mem_filter.mp ha).2
  have l8 := le8 J.nd hb
  have pi := isort_perm ws
  have hW : ∀ w, w ∈ isort ws ↔ w ∈ ws := fun w => pi.mem_iff
  have ndI : (isort ws).Nodup := pi.nodup_iff.mpr J.nd
  have asI : (isort ws).Pairwise (· < ·) := by
    have := (isort_asc ws).and ndI
    exact this.imp fun {a b} z => by have := z.1; have := z.2; omega
  have l0 := (List.getElem?_eq_some_iff.mp J.dct).1
  have s1 : ml_report_1 TP0 [some (.d (.list (rs.map rcD))), none, none, none] h = some (.nx [some (.d (.list (rs.map rcD))), some (.ref h.length), none, none] h1) := by
    unfold ml_report_1
    walk_at "ev"
    rw [e1]
    walk_at "ev"
  have s2 : ml_report_2 TP0 [some (.d (.list (rs.map rcD))), some (.ref h.length), none, none] h1 = some (.nx [some (.d (.list (rs.map rcD))), some (.ref h.length), some (.ref h1.length), none] (h1 ++ [.lst []])) := by
    unfold ml_report_2
    walk_at "ev"
  obtain ⟨h2, eh2⟩ : ∃ h2, h2 = h1 ++ [Ob.lst []] := ⟨_, rfl⟩
  obtain ⟨p, ep⟩ : ∃ p, p = h1.length := ⟨_, rfl⟩
  have g2 : ∀ n, n < p → h2[n]? = h1[n]? := fun n hn => by rw [eh2, List.getElem?_append_left (by omega)]
  have g2p : h2[p]? = some (.lst []) := by rw [eh2, ep, List.getElem?_append_right (Nat.le_refl _), Nat.sub_self]; rfl
  rw [← eh2, ← ep] at s2
  have es : mSortDI [.ref h.length] h2 = some ((isort ws).map dI, h2) := by
    unfold mSortDI
    rw [e_arg1, Option.bind_some, e_asK ((g2 _ (by omega)).trans J.dct), Option.bind_some]
    simp only [intKeys_ws, Option.bind_some]
    rw [if_pos (by omega)]
  obtain ⟨env', h3, e, z3, rfl, K1, K2⟩ := mFor_inv (mi := mItL (mDat (mCBF mSortDI (mCons (mVar 1) mNil)))) (g := mgName 3) (mb := mb_report_3 TP0)
    (env := [some (.d (.list (rs.map rcD))), some (.ref h.length), some (.ref p), none]) (h := h2) (isort ws) dI (h1 := h2)
    (by
      refine (e_lst (ds := (isort ws).map .int) (h1 := h2) ?_).trans (by rw [List.map_map]; rfl)
      simp only [mDat, mCBF, mCons, mNil, e_mVar, wipeM, List.set_cons_succ, List.set_cons_zero, List.getElem?_cons_zero, List.getElem?_cons_succ, Option.bind_some, es, allD_dI, Option.map_some])
    (fun i env hh => ∃ z3, env = [some (.d (.list (rs.map rcD))), some (.ref h.length), some (.ref p), z3] ∧ hh[p]? = some (.lst ((PT rs ((isort ws).take i)).map fun t => .d (pD t))) ∧ ∀ n, n < p → hh[n]? = h2[n]?)
    ⟨none, rfl, g2p, fun _ _ => rfl⟩ (by
      rintro i w env hh hi ⟨z3, rfl, K1, K2⟩
      have hw : w ∈ ws := (hW w).mp (List.mem_of_getElem? hi)
      have lw : loc w < p := by have := (List.getElem?_eq_some_iff.mp (J.val w hw)).1; omega
      have gw : hh[loc w]? = some (sdO w ((asc rs).filter (uses w))) := by rw [K2 _ lw, g2 _ lw]; exact J.val w hw
      have gd : hh[h.length]? = some (.dct (kvs loc ws)) := by rw [K2 _ (by omega), g2 _ (by omega)]; exact J.dct
      have lp := (List.getElem?_eq_some_iff.mp K1).1
      have k1 : (hh ++ [Ob.lst ((PW w ((asc rs).filter (uses w))).map fun t => .d (pD t))])[p]? = some (.lst ((PT rs ((isort ws).take i)).map fun t => .d (pD t))) := by rw [List.getElem?_append_left lp]; exact K1
      have k2 : (hh ++ [Ob.lst ((PW w ((asc rs).filter (uses w))).map fun t => .d (pD t))])[hh.length]? = some (.lst ((PW w ((asc rs).filter (uses w))).map fun t => .d (pD t))) := by rw [List.getElem?_append_right (Nat.le_refl _), Nat.sub_self]; rfl
      have sz : (PT rs ((isort ws).take i)).length ≤ 80000 := by
        have h1 := fm_len (xs := (isort ws).take i) (f := fun w => PW w ((asc rs).filter (uses w))) (n := 10000) fun w _ => PW_len w _ (lnS w)
        have h2 : ((isort ws).take i).length ≤ 8 := by rw [List.length_take]; have := pi.length_eq; omega
        have h3 := Nat.mul_le_mul_right 10000 h2
        unfold PT
        omega
      have sz2 := PW_len w ((asc rs).filter (uses w)) (lnS w)
      refine ⟨[some (.d (.list (rs.map rcD))), some (.ref h.length), some (.ref p), some (dI w)], [some (.d (.list (rs.map rcD))), some (.ref h.length), some (.ref p), some (dI w)], (hh ++ [Ob.lst ((PW w ((asc rs).filter (uses w))).map fun t => .d (pD t))]).set p (.lst ((PT rs ((isort ws).take (i + 1))).map fun t => .d (pD t))), rfl, ?_, _, rfl, ?_, fun n hn => ?_⟩
      · unfold mb_report_3 ml_report_4 mExt
        walk_at "ev"
        rw [e_asL K1]
        walk_at "ev"
        rw [e_asK gd]
        walk_at "ev"
        rw [valG_ws, if_pos hw]
        walk_at "ev"
        rw [q_papers_of m w _ (okS w) (lnS w) (loc w) hh gw]
        walk_at "ev"
        rw [e_asL k1, Option.bind_some, e_asL k2, Option.bind_some]
        rw [if_pos (by rw [List.length_map, List.length_map]; omega)]
        refine congrArg (fun z => some (MRes.nx _ (List.set _ p (Ob.lst z)))) ?_
        rw [take_succ' hi, PT, PT, List.flatMap_append, List.map_append]
        simp
      · exact List.getElem?_set_self (by simp; omega)
      · rw [List.getElem?_set_ne (by omega), List.getElem?_append_left (by omega)]; exact K2 n hn)
  rw [List.take_length] at K1
  have s3 : ml_report_3 TP0 [some (.d (.list (rs.map rcD))), some (.ref h.length), some (.ref p), none] h2 = some (.nx [some (.d (.list (rs.map rcD))), some (.ref h.length), some (.ref p), z3] h3) := e
  refine ⟨p, h3, isort ws, ?_, K1, fun n hn => ?_, asI, fun w => (hW w).trans (J.mem w)⟩
  · unfold fn_report m_report
    walk_at "ev"
    rw [s1, Option.bind_some, e_seqN, e_mSeq s2, e_mSeq s3]
    unfold ml_report_5
    walk_at "ev"
  · rw [K2 n (by omega), g2 n (by omega)]; exact J.old n hn
end
/-! ### what the report holds -/
instance (a b : Int × Int) : Decidable (kLtP a b) := by unfold kLtP; infer_instance
theorem asc_strict {rs : List Rc} (hn : (rs.map kR).Nodup) : (asc rs).Pairwise fun a b => kLtP (kR a) (kR b) := by
  have e : (fun a b : Rc => !kLt (kR b) (kR a)) = fun a b : Rc => !decide (kLtP (kR b) (kR a)) := by
    funext a b
    congr 1
    by_cases h : kLtP (kR b) (kR a)
    · rw [decide_eq_true h]; exact (kLt_iff _ _).mpr h
    · rw [decide_eq_false h]
      exact Bool.eq_false_iff.mpr fun z => h ((kLt_iff _ _).mp z)
  unfold asc
  rw [e]
  exact srt_strict (lt := kLtP) kLtP_irr (fun h n => kLtP_tot h n) (fun {a b} h g => kLtP_irr a (kLtP_tr h g)) (fun h g => kLtP_ntr h g) kR rs hn
theorem mem_PW (w : Int) (S : List Rc) (hS : S.Pairwise fun a b => kLtP (kR a) (kR b)) (t : Int × Rc × Rc) : t ∈ PW w S ↔ t.1 = w ∧ t.2.1 ∈ S ∧ t.2.2 ∈ S ∧ kLtP (kR t.2.1) (kR t.2.2) ∧ race w t.2.1 t.2.2 = true := by
  have pm := prs_mem (lt := fun a b : Rc => kLtP (kR a) (kR b)) (fun a => kLtP_irr _) (fun {a b} h g => kLtP_irr _ (kLtP_tr h g)) hS
  unfold PW
  constructor
  · intro h
    obtain ⟨q, hq, rfl⟩ := List.mem_map.mp h
    have hq := List.mem_filter.mp hq
    have := (pm q.1 q.2).mp hq.1
    exact ⟨rfl, this.1, this.2.1, this.2.2, hq.2⟩
  · rintro ⟨h1, h2, h3, h4, h5⟩
    obtain ⟨v, a, b⟩ := t
    simp only at h1 h2 h3 h4 h5
    subst h1
    exact List.mem_map.mpr ⟨(a, b), List.mem_filter.mpr ⟨(pm a b).mpr ⟨h2, h3, h4⟩, h5⟩, rfl⟩
theorem race_ne {w : Int} {a b : Rc} (h : race w a b = true) : a.mc ≠ b.mc := fun e => by
  unfold race unord at h
  simp [e] at h
theorem lt_race {w : Int} {a b : Rc} (h : race w a b = true) : kLtP (kR a) (kR b) ↔ a.mc < b.mc := by
  have := race_ne h
  unfold kLtP
  constructor
  · rintro (z | ⟨z, _⟩)
    · exact z
    · exact absurd z this
  · exact .inl
theorem mem_PT {rs : List Rc} (hn : (rs.map kR).Nodup) {W : List Int} (hm : ∀ w, w ∈ W ↔ (asc rs).filter (uses w) ≠ []) (t : Int × Rc × Rc) : t ∈ PT rs W ↔ (t.2.1 ∈ rs ∧ uses t.1 t.2.1 = true) ∧ (t.2.2 ∈ rs ∧ uses t.1 t.2.2 = true) ∧ t.2.1.mc < t.2.2.mc ∧ race t.1 t.2.1 t.2.2 = true := by
  have ha : ∀ r, r ∈ asc rs ↔ r ∈ rs := fun r => (List.mergeSort_perm rs _).mem_iff
  have hS : ∀ w, ((asc rs).filter (uses w)).Pairwise fun a b => kLtP (kR a) (kR b) := fun w => (asc_strict hn).filter _
  unfold PT
  rw [List.mem_flatMap]
  constructor
  · rintro ⟨w, _, ht⟩
    obtain ⟨e, h1, h2, h3, h4⟩ := (mem_PW w _ (hS w) t).mp ht
    subst e
    have h1 := List.mem_filter.mp h1
    have h2 := List.mem_filter.mp h2
    exact ⟨⟨(ha _).mp h1.1, h1.2⟩, ⟨(ha _).mp h2.1, h2.2⟩, (lt_race h4).mp h3, h4⟩
  · rintro ⟨⟨h1, u1⟩, ⟨h2, u2⟩, h3, h4⟩
    have m1 : t.2.1 ∈ (asc rs).filter (uses t.1) := List.mem_filter.mpr ⟨(ha _).mpr h1, u1⟩
    exact ⟨t.1, (hm t.1).mpr (List.ne_nil_of_mem m1), (mem_PW t.1 _ (hS t.1) t).mpr ⟨rfl, m1, List.mem_filter.mpr ⟨(ha _).mpr h2, u2⟩, (lt_race h4).mpr h3, h4⟩⟩
/-! ### any side, any paper -/
inductive Kd
  | ld | st | no
deriving DecidableEq
abbrev knD : Kd → PyData
  | .ld => .str "load"
  | .st => .str "store"
  | .no => .none
theorem Enc.kn : Enc knD 0 := ⟨fun a b => by cases a <;> cases b <;> simp [knD, PyData.eqv] <;> decide, fun a => by cases a <;> rw [PyData.canLay0] <;> decide +kernel, fun a => by cases a <;> rw [PyData.depth] <;> exact Nat.le_refl _⟩
abbrev Sd := Int × Int × List Int × Kd
instance instSd : DecidableEq Sd := inferInstance
instance instXd : DecidableEq (Int × Sd × Sd) := @instDecidableEqProd Int (Sd × Sd) _ (@instDecidableEqProd Sd Sd _ _)
abbrev sD (s : Sd) : PyData := .tuple [.int s.1, .int s.2.1, ti s.2.2.1, knD s.2.2.2]
theorem Enc.sd : Enc sD 2 := Enc.int.quad Enc.int Enc.ti Enc.kn
abbrev xD (x : Int × Sd × Sd) : PyData := .tuple [.int x.1, sD x.2.1, sD x.2.2]
theorem Enc.xd : Enc xD 3 := Enc.int.trip Enc.sd Enc.sd
def kOf (w : Int) (r : Rc) : Kd := if isSt w r = true then .st else if uses w r = true then .ld else .no
def sOf (w : Int) (r : Rc) : Sd := (r.mc, r.nb, r.ck, kOf w r)
theorem sd_sOf {w : Int} {r : Rc} (hu : uses w r = true) : sdD w r = sD (sOf w r) := by
  unfold sOf kOf
  by_cases h : isSt w r = true
  · simp [h]
  · simp [h, hu]
theorem q_kind_of' (r : Rc) (w : Int) : pf_kind_of [rcD r, .int w] = some (knD (kOf w r)) := by
  by_cases hu : uses w r = true
  · rw [q_kind_of r w hu]
    unfold kOf
    by_cases h : isSt w r = true
    · simp [h]
    · simp [h, hu]
  · have h1 : w ∉ r.ld := fun z => hu (by unfold uses; simp [z])
    have h2 : w ∉ r.st := fun z => hu (by unfold uses; simp [z])
    unfold pf_kind_of m_kind_of ml_kind_of_1 ml_kind_of_3
    walk_at "ev"
    unfold mc_kind_of_1 mc_kind_of_3
    walk_at "ev"
    rw [in_ti]
    simp only [h2, decide_false]
    walk_at "ev"
    rw [in_ti]
    simp only [h1, decide_false]
    unfold ml_kind_of_5
    walk_at "ev"
    unfold kOf
    simp [h2, hu]
theorem kit_ii : kitB "int" "int" = some true := by decide +kernel
theorem kit_ib : kitB "int" "bool" = some false := by decide +kernel
theorem kit_tt : kitB "tuple" "tuple" = some true := by decide +kernel
theorem kit_ti : kitB "int" "tuple" = some false := by decide +kernel
theorem kit_tn : kitB "NoneType" "tuple" = some false := by decide +kernel
theorem kit_ts : kitB "str" "tuple" = some false := by decide +kernel
theorem kit_tl : kitB "list" "tuple" = some false := by decide +kernel
theorem kit_ss : kitB "str" "str" = some true := by decide +kernel
theorem kit_sn : kitB "NoneType" "str" = some false := by decide +kernel
theorem isi_d {n k : String} {p : PyData} {b : Bool} (hk : G.kindOf p = k) (hb : kitB k n = some b) {me : ME} {env : Env} {h : MH} (e : me env h = some (.d p, h)) : mIsi n me env h = some (.d (.bool b), h) := by
  unfold mIsi
  rw [e, Option.bind_some]
  simp only [hk, hb, Option.map_some]
theorem mV {env : Env} {h : MH} {j : Nat} {v : MV} (e : env[j]? = some (some v)) : mVar j env h = some (v, h) := by unfold mVar; rw [e]
theorem q_is_whole (i : Int) : pf_is_whole [.int i] = some (.bool true) := by
  unfold pf_is_whole m_is_whole ml_is_whole_1
  walk_at "ev"
  rw [show kitB (G.kindOf (.int i)) "int" = some true from kit_ii]
  walk_at "ev"
  rw [show kitB (G.kindOf (.int i)) "bool" = some false from kit_ib]
  walk_at "ev"
theorem q_is_clock (c : List Int) (hz : c.length ≤ 1000) : pf_is_clock [ti c] = some (.bool true) := by
  unfold pf_is_clock m_is_clock ml_is_clock_1
  walk_at "ev"
  rw [show kitB (G.kindOf (ti c)) "tuple" = some true from kit_tt]
  walk_at "ev"
  rw [mLc_map (h1 := []) c dI (fun _ => .d (.bool true))]
  · rw [show (c.map fun _ => MV.d (.bool true)) = ((c.map fun _ => true).map PyData.bool).map .d by rw [List.map_map, List.map_map]; rfl]
    walk_at "ev"
    simp
  · rw [e_tup (ds := c.map .int) (h1 := []) rfl, ii_map]
  · intro k hk
    walk_at "ev"
    rw [q_is_whole]
    walk_at "ev"
  · omega
def isK : Kd → Bool
  | .no => false
  | _ => true
theorem q_is_side (s : Sd) (hz : s.2.2.1.length ≤ 1000) : pf_is_side [sD s] = some (.bool (isK s.2.2.2)) := by
  unfold pf_is_side m_is_side ml_is_side_1 ml_is_side_3 ml_is_side_4
  walk_at "ev"
  unfold mc_is_side_1
  walk_at "ev"
  rw [show kitB (G.kindOf (sD s)) "tuple" = some true from kit_tt]
  walk_at "ev"
  rw [if_neg (by decide)]
  walk_at "ev"
  rw [q_is_whole]
  walk_at "ev"
  rw [q_is_whole]
  walk_at "ev"
  rw [q_is_clock _ hz]
  walk_at "ev"
  obtain ⟨a, b, c, k⟩ := s
  cases k
  · rw [show kitB (G.kindOf (knD .ld)) "str" = some true from kit_ss]
    rfl
  · rw [show kitB (G.kindOf (knD .st)) "str" = some true from kit_ss]
    rfl
  · rw [show kitB (G.kindOf (knD .no)) "str" = some false from kit_sn]
    rfl
theorem q_is_paper (x : Int × Sd × Sd) (h1 : x.2.1.2.2.1.length ≤ 1000) (h2 : x.2.2.2.2.1.length ≤ 1000) : pf_is_paper [xD x] = some (.bool (isK x.2.1.2.2.2 && isK x.2.2.2.2.2)) := by
  unfold pf_is_paper m_is_paper ml_is_paper_1 ml_is_paper_3 ml_is_paper_4
  walk_at "ev"
  unfold mc_is_paper_1
  walk_at "ev"
  rw [show kitB (G.kindOf (xD x)) "tuple" = some true from kit_tt]
  walk_at "ev"
  rw [if_neg (by decide)]
  walk_at "ev"
  rw [q_is_whole]
  walk_at "ev"
  rw [q_is_side _ h1]
  walk_at "ev"
  cases isK x.2.1.2.2.2
  · walk_at "ev"
    rfl
  · walk_at "ev"
    rw [q_is_side _ h2]
    walk_at "ev"
    simp
abbrev tri (r : Rc) : Int × Int × List Int := (r.mc, r.nb, r.ck)
abbrev triD (x : Int × Int × List Int) : PyData := .tuple [.int x.1, .int x.2.1, ti x.2.2]
theorem Enc.tri : Enc triD 2 := Enc.int.trip Enc.int Enc.ti
def told (w : Int) (s : Sd) (rs : List Rc) : Bool := rs.any fun r => decide (tri r = (s.1, s.2.1, s.2.2.1)) && decide (kOf w r = s.2.2.2)
theorem q_is_told (w : Int) (s : Sd) (rs : List Rc) (hz : rs.length ≤ 1000) : pf_is_told [sD s, .int w, .list (rs.map rcD)] = some (.bool (told w s rs)) := by
  unfold pf_is_told m_is_told ml_is_told_1
  walk_at "ev"
  rw [mLc_map (h1 := []) rs (fun r => .d (rcD r)) (fun r => .d (.bool (decide (tri r = (s.1, s.2.1, s.2.2.1)) && decide (kOf w r = s.2.2.2))))]
  · rw [show (rs.map fun r => MV.d (.bool (decide (tri r = (s.1, s.2.1, s.2.2.1)) && decide (kOf w r = s.2.2.2)))) = ((rs.map fun r => (decide (tri r = (s.1, s.2.1, s.2.2.1)) && decide (kOf w r = s.2.2.2))).map PyData.bool).map .d by rw [List.map_map, List.map_map]; rfl]
    walk_at "ev"
    unfold told
    rw [List.any_map]
    rfl
  · rw [e_lst (ds := rs.map rcD) (h1 := []) rfl, List.map_map]; rfl
  · intro r hr
    have e1 : mSlT (mVar 3) mNoPart (mPart (mK (.int 3))) [some (.d (sD s)), some (dI w), some (.d (.list (rs.map rcD))), some (.d (rcD r))] [] = some (.d (triD (tri r)), []) := by
      simp only [mSlT, mPart, mNoPart]
      walk_at "ev"
      rw [if_neg (by simp [HT.sIx]), cut_to _ (by decide)]
      rfl
    have e2 : mSlT (mVar 0) mNoPart (mPart (mK (.int 3))) [some (.d (sD s)), some (dI w), some (.d (.list (rs.map rcD))), some (.d (rcD r))] [] = some (.d (triD (s.1, s.2.1, s.2.2.1)), []) := by
      simp only [mSlT, mPart, mNoPart]
      walk_at "ev"
      rw [if_neg (by simp [HT.sIx]), cut_to _ (by decide)]
      rfl
    walk_at "ev"
    rw [e1]
    walk_at "ev"
    rw [e2]
    walk_at "ev"
    rw [e_eqE Enc.tri (neg := false) (a := tri r) (b := (s.1, s.2.1, s.2.2.1))]
    cases hc : decide (tri r = (s.1, s.2.1, s.2.2.1))
    · simp
      walk_at "ev"
    · simp only [Bool.false_eq_true, if_false]
      walk_at "ev"
      rw [q_kind_of' r w]
      walk_at "ev"
      rw [e_eqE Enc.kn (neg := false) (a := kOf w r) (b := s.2.2.2)]
      simp
  · omega
/-! ### is_right -/
def Rt (rs : List Rc) (x : Int × Sd × Sd) : Prop := ∃ a ∈ rs, ∃ b ∈ rs, uses x.1 a = true ∧ uses x.1 b = true ∧ sOf x.1 a = x.2.1 ∧ sOf x.1 b = x.2.2 ∧ a.mc < b.mc ∧ race x.1 a b = true
theorem isK_uses {w : Int} {r : Rc} : isK (kOf w r) = uses w r := by
  unfold kOf
  by_cases h : isSt w r = true
  · have : uses w r = true := by
      unfold uses
      have := of_decide_eq_true h
      simp [this]
    simp [h, this, isK]
  · by_cases hu : uses w r = true
    · simp [h, hu, isK]
    · simp [h, hu, isK]
theorem told_iff {w : Int} {s : Sd} {rs : List Rc} : told w s rs = true ↔ ∃ r ∈ rs, sOf w r = s := by
  unfold told
  rw [List.any_eq_true]
  constructor
  · rintro ⟨r, hr, h⟩
    rw [Bool.and_eq_true, decide_eq_true_iff, decide_eq_true_iff] at h
    obtain ⟨h1, h2⟩ := h
    obtain ⟨s1, s2, s3, s4⟩ := s
    simp only [Prod.mk.injEq] at h1
    obtain ⟨rfl, rfl, rfl⟩ := h1
    simp only at h2
    subst h2
    exact ⟨r, hr, rfl⟩
  · rintro ⟨r, hr, rfl⟩
    exact ⟨r, hr, by simp [sOf]⟩
def okX (x : Int × Sd × Sd) : Prop := x.2.1.2.2.1.length ≤ 1000 ∧ x.2.2.2.2.1.length ≤ 1000
def envI (p : PyData) (rs : List Rc) (x2 x3 x4 : Option MV) : Env := [some (.d p), some (.d (.list (rs.map rcD))), x2, x3, x4]
theorem right1 (p : PyData) (b : Bool) (rs : List Rc) (h : MH) (e : pf_is_paper [p] = some (.bool b)) : ml_is_right_1 (envI p rs none none none) h = some (if b = true then .nx (envI p rs none none none) h else .rt (.d (.bool false)) h) := by
  unfold ml_is_right_1
  have et : mc_is_right_1 (envI p rs none none none) h = some (!b, h) := by
    unfold mc_is_right_1 envI
    walk_at "ev"
    rw [e]
    walk_at "ev"
  cases b
  · rw [if_neg (by decide)]
    refine e_ifT (h1 := h) et ?_
    unfold ml_is_right_2 envI
    walk_at "ev"
  · rw [if_pos rfl]
    exact e_ifF (h1 := h) et rfl
theorem right_bad {p : PyData} (rs : List Rc) (e : pf_is_paper [p] = some (.bool false)) : pf_is_right [p, .list (rs.map rcD)] = some (.bool false) := by
  have s1 := right1 p false rs [] e
  rw [if_neg (by decide)] at s1
  unfold envI at s1
  unfold pf_is_right m_is_right
  walk_at "ev"
  rw [s1]
  walk_at "ev"
theorem q_is_right {m : Int} {rs : List Rc} (ok : ∀ r ∈ rs, okR m r) (hn : (rs.map kR).Nodup) (hz : rs.length ≤ 100) (x : Int × Sd × Sd) (hx : okX x) : ∃ v, pf_is_right [xD x, .list (rs.map rcD)] = some (.bool v) ∧ (v = true ↔ Rt rs x) := by
  have ep := q_is_paper x hx.1 hx.2
  by_cases hk : (isK x.2.1.2.2.2 && isK x.2.2.2.2.2) = true
  · rw [hk] at ep
    have s1 := right1 (xD x) true rs [] ep
    rw [if_pos rfl] at s1
    have s3 : ml_is_right_3 (envI (xD x) rs none none none) [] = some (.nx (envI (xD x) rs (some (dI x.1)) (some (.d (sD x.2.1))) (some (.d (sD x.2.2)))) []) := by
      unfold ml_is_right_3 envI
      walk_at "ev"
    have t1 := q_is_told x.1 x.2.1 rs (by omega)
    have t2 := q_is_told x.1 x.2.2 rs (by omega)
    have et : mc_is_right_4 (envI (xD x) rs (some (dI x.1)) (some (.d (sD x.2.1))) (some (.d (sD x.2.2)))) [] = some (!told x.1 x.2.1 rs || !told x.1 x.2.2 rs, []) := by
      unfold mc_is_right_4 envI
      walk_at "ev"
      rw [t1]
      walk_at "ev"
      cases told x.1 x.2.1 rs
      · walk_at "ev"
        rfl
      · walk_at "ev"
        rw [t2]
        walk_at "ev"
        cases told x.1 x.2.2 rs <;> rfl
    by_cases h1 : told x.1 x.2.1 rs = true
    · by_cases h2 : told x.1 x.2.2 rs = true
      · obtain ⟨a, ha, ea⟩ := told_iff.mp h1
        obtain ⟨b, hb, eb⟩ := told_iff.mp h2
        rw [Bool.and_eq_true] at hk
        have ua : uses x.1 a = true := by rw [← isK_uses]; have := hk.1; rw [← ea] at this; exact this
        have ub : uses x.1 b = true := by rw [← isK_uses]; have := hk.2; rw [← eb] at this; exact this
        have s4 : ml_is_right_4 (envI (xD x) rs (some (dI x.1)) (some (.d (sD x.2.1))) (some (.d (sD x.2.2)))) [] = some (.nx (envI (xD x) rs (some (dI x.1)) (some (.d (sD x.2.1))) (some (.d (sD x.2.2)))) []) := by
          unfold ml_is_right_4
          exact e_ifF (h1 := []) (et.trans (by rw [h1, h2]; rfl)) rfl
        have s6 : ml_is_right_6 (envI (xD x) rs (some (dI x.1)) (some (.d (sD x.2.1))) (some (.d (sD x.2.2)))) [] = some (.rt (.d (.bool (decide (a.mc < b.mc) && race x.1 a b))) []) := by
          rw [← ea, ← eb, ← sd_sOf ua, ← sd_sOf ub]
          unfold ml_is_right_6 envI
          walk_at "ev"
          by_cases hlt : a.mc < b.mc
          · simp only [hlt, decide_true]
            walk_at "ev"
            rw [ok_race (ok a ha) (ok b hb)]
            walk_at "ev"
            simp
          · simp only [hlt, decide_false]
            walk_at "ev"
            simp
        refine ⟨decide (a.mc < b.mc) && race x.1 a b, ?_, ?_⟩
        · unfold envI at s1
          unfold pf_is_right m_is_right
          walk_at "ev"
          rw [s1, Option.bind_some, e_seqN]
          rw [show ([some (.d (xD x)), some (.d (.list (rs.map rcD))), none, none, none] : Env) = envI (xD x) rs none none none from rfl, e_mSeq s3, e_mSeq s4, s6]
          walk_at "ev"
        · rw [Bool.and_eq_true, decide_eq_true_iff]
          constructor
          · exact fun h => ⟨a, ha, b, hb, ua, ub, ea, eb, h.1, h.2⟩
          · rintro ⟨a', ha', b', hb', _, _, ea', eb', l, r⟩
            have e1 : a' = a := nodup_inj hn ha' ha (by
              have := ea'.trans ea.symm
              exact congrArg (fun z : Sd => (z.1, z.2.1)) this)
            have e2 : b' = b := nodup_inj hn hb' hb (by
              have := eb'.trans eb.symm
              exact congrArg (fun z : Sd => (z.1, z.2.1)) this)
            subst e1
            subst e2
            exact ⟨l, r⟩
      · have s4 : ml_is_right_4 (envI (xD x) rs (some (dI x.1)) (some (.d (sD x.2.1))) (some (.d (sD x.2.2)))) [] = some (.rt (.d (.bool false)) []) := by
          unfold ml_is_right_4
          refine e_ifT (h1 := []) (et.trans (by rw [h1, Bool.eq_false_iff.mpr h2]; rfl)) ?_
          unfold ml_is_right_5
          walk_at "ev"
        refine ⟨false, ?_, ⟨(fun z => nomatch z), ?_⟩⟩
        · unfold envI at s1
          unfold pf_is_right m_is_right
          walk_at "ev"
          rw [s1, Option.bind_some, e_seqN]
          rw [show ([some (.d (xD x)), some (.d (.list (rs.map rcD))), none, none, none] : Env) = envI (xD x) rs none none none from rfl, e_mSeq s3]
          unfold mSeq
          rw [s4]
          walk_at "ev"
        · rintro ⟨a, ha, b, hb, _, _, ea, eb, _⟩
          exact absurd (told_iff.mpr ⟨b, hb, eb⟩) h2
    · have s4 : ml_is_right_4 (envI (xD x) rs (some (dI x.1)) (some (.d (sD x.2.1))) (some (.d (sD x.2.2)))) [] = some (.rt (.d (.bool false)) []) := by
        unfold ml_is_right_4
        refine e_ifT (h1 := []) (et.trans (by rw [Bool.eq_false_iff.mpr h1]; rfl)) ?_
        unfold ml_is_right_5
        walk_at "ev"
      refine ⟨false, ?_, ⟨(fun z => nomatch z), ?_⟩⟩
      · unfold envI at s1
        unfold pf_is_right m_is_right
        walk_at "ev"
        rw [s1, Option.bind_some, e_seqN]
        rw [show ([some (.d (xD x)), some (.d (.list (rs.map rcD))), none, none, none] : Env) = envI (xD x) rs none none none from rfl, e_mSeq s3]
        unfold mSeq
        rw [s4]
        walk_at "ev"
      · rintro ⟨a, ha, b, hb, _, _, ea, eb, _⟩
        exact absurd (told_iff.mpr ⟨a, ha, ea⟩) h1
  · rw [Bool.eq_false_iff.mpr hk] at ep
    refine ⟨false, right_bad rs ep, ⟨(fun z => nomatch z), ?_⟩⟩
    rintro ⟨a, ha, b, hb, ua, ub, ea, eb, _⟩
    refine absurd ?_ hk
    rw [← ea, ← eb]
    show (isK (kOf x.1 a) && isK (kOf x.1 b)) = true
    rw [isK_uses, isK_uses, ua, ub]
    rfl
/-! ### in the papers -/
def xOf (t : Int × Rc × Rc) : Int × Sd × Sd := (t.1, sOf t.1 t.2.1, sOf t.1 t.2.2)
theorem papers_x {rs : List Rc} (hn : (rs.map kR).Nodup) {W : List Int} (hm : ∀ w, w ∈ W ↔ (asc rs).filter (uses w) ≠ []) : (PT rs W).map pD = ((PT rs W).map xOf).map xD := by
  rw [List.map_map]
  refine List.map_congr_left fun t ht => ?_
  have := (mem_PT hn hm t).mp ht
  show PyData.tuple [.int t.1, sdD t.1 t.2.1, sdD t.1 t.2.2] = _
  rw [sd_sOf this.1.2, sd_sOf this.2.1.2]
  rfl
theorem mem_x {rs : List Rc} (hn : (rs.map kR).Nodup) {W : List Int} (hm : ∀ w, w ∈ W ↔ (asc rs).filter (uses w) ≠ []) (x : Int × Sd × Sd) : x ∈ (PT rs W).map xOf ↔ Rt rs x := by
  rw [List.mem_map]
  constructor
  · rintro ⟨t, ht, rfl⟩
    obtain ⟨⟨h1, u1⟩, ⟨h2, u2⟩, h3, h4⟩ := (mem_PT hn hm t).mp ht
    exact ⟨_, h1, _, h2, u1, u2, rfl, rfl, h3, h4⟩
  · rintro ⟨a, ha, b, hb, u1, u2, ea, eb, h3, h4⟩
    exact ⟨(x.1, a, b), (mem_PT hn hm _).mpr ⟨⟨ha, u1⟩, ⟨hb, u2⟩, h3, h4⟩, Prod.ext rfl (Prod.ext ea eb)⟩
def Bad (p : PyData) : Prop := pf_is_paper [p] = some (.bool false) ∧ (∀ x, PyData.eqv (xD x) p = false) ∧ SeqAt.shaped p = true
/-! ### papers that are changed -/
theorem e_mSeqRt {a b : MS} {env : Env} {h h1 : MH} {v : MV} (e : a env h = some (.rt v h1)) : mSeq a b env h = some (.rt v h1) := by
  unfold mSeq
  rw [e, Option.bind_some, e_seqR]
def envC (x : Int × Sd × Sd) (c d0 d1 d2 d3 : Int) (x6 x7 x8 : Option MV) : Env := [some (.d (xD x)), some (dI c), some (.d (.list [.int d0, .int d1, .int d2, .int d3])), some (dI x.1), some (.d (sD x.2.1)), some (.d (sD x.2.2)), x6, x7, x8]
theorem digs4 (c : Int) : ∃ d0 d1 d2 d3 : Int, pf__law_digits [.int c, li [9, 3, 8, 2]] = some (.list [.int d0, .int d1, .int d2, .int d3]) ∧ (0 ≤ d0 ∧ d0 < 9) ∧ (0 ≤ d1 ∧ d1 < 3) ∧ (0 ≤ d2 ∧ d2 < 8) ∧ (0 ≤ d3 ∧ d3 < 2) := by
  obtain ⟨ds, e, hl, ok⟩ := q__law_digits c [9, 3, 8, 2] (fun b hb => by simp at hb; omega) (by simp)
  match ds, hl with
  | [d0, d1, d2, d3], _ =>
    have a0 := ok 0 (by simp)
    have a1 := ok 1 (by simp)
    have a2 := ok 2 (by simp)
    have a3 := ok 3 (by simp)
    simp at a0 a1 a2 a3
    exact ⟨d0, d1, d2, d3, e, a0, a1, a2, a3⟩
section
variable {x : Int × Sd × Sd} {c d0 d1 d2 d3 : Int} {x6 x7 x8 : Option MV} {h : MH}
theorem tdig (k : Int) : mTest (mOp (mEqD false) (mOp mIx (mVar 2) (mK (.int 0))) (mK (.int k))) (envC x c d0 d1 d2 d3 x6 x7 x8) h = some (decide (d0 = k), h) := by
  unfold envC
  walk_at "ev"
abbrev lsS (s : Sd) : Ob := .lst [dI s.1, dI s.2.1, .d (ti s.2.2.1), .d (knD s.2.2.2)]
abbrev hpC (a b : Sd) : MH := [lsS a, lsS b, .lst [.ref 0, .ref 1]]
theorem ch11 : ml__law_changed_11 (envC x c d0 d1 d2 d3 none none none) [] = some (.nx (envC x c d0 d1 d2 d3 (some (.ref 2)) none none) (hpC x.2.1 x.2.2)) := by
  unfold ml__law_changed_11 envC
  walk_at "ev"
theorem ch12 (hd : 0 ≤ d3 ∧ d3 < 2) : ml__law_changed_12 (envC x c d0 d1 d2 d3 (some (.ref 2)) none none) (hpC x.2.1 x.2.2) = some (.nx (envC x c d0 d1 d2 d3 (some (.ref 2)) (some (.ref d3.toNat)) none) (hpC x.2.1 x.2.2)) := by
  have e : mIx (.ref 2) (.d (.int d3)) (hpC x.2.1 x.2.2) = some (.ref d3.toNat, hpC x.2.1 x.2.2) := by
    refine e_ixR (n := 2) (xs := [.ref 0, .ref 1]) rfl ?_
    rw [atI_get hd.1 (by simp; omega) (.d .none)]
    have : d3 = 0 ∨ d3 = 1 := by omega
    rcases this with rfl | rfl <;> rfl
  unfold ml__law_changed_12 envC
  walk_at "ev"
  rw [e]
  walk_at "ev"
theorem ch21 (a b : Sd) : ml__law_changed_21 (envC x c d0 d1 d2 d3 (some (.ref 2)) x7 x8) (hpC a b) = some (.rt (.d (xD (x.1, a, b))) (hpC a b)) := by
  unfold ml__law_changed_21 envC
  walk_at "ev"
  rw [show mIx (.ref 2) (.d (.int 0)) (hpC a b) = some (.ref 0, hpC a b) from e_ixR (n := 2) (xs := [.ref 0, .ref 1]) rfl rfl]
  walk_at "ev"
  rw [show mIx (.ref 2) (.d (.int 1)) (hpC a b) = some (.ref 1, hpC a b) from e_ixR (n := 2) (xs := [.ref 0, .ref 1]) rfl rfl]
  walk_at "ev"
/-- the sides after the change of one of them -/
def chs (d3 : Int) (a b s : Sd) : Sd × Sd := if d3 = 0 then (s, b) else (a, s)
def sel (d3 : Int) (a b : Sd) : Sd := if d3 = 0 then a else b
theorem hp_set (hd : 0 ≤ d3 ∧ d3 < 2) (a b s : Sd) : (hpC a b).set d3.toNat (lsS s) = hpC (chs d3 a b s).1 (chs d3 a b s).2 := by
  have : d3 = 0 ∨ d3 = 1 := by omega
  rcases this with rfl | rfl <;> rfl
theorem hp_get (hd : 0 ≤ d3 ∧ d3 < 2) (a b : Sd) : (hpC a b)[d3.toNat]? = some (lsS (sel d3 a b)) := by
  have : d3 = 0 ∨ d3 = 1 := by omega
  rcases this with rfl | rfl <;> rfl
theorem chs_sel (hd : 0 ≤ d3 ∧ d3 < 2) (a b : Sd) : chs d3 a b (sel d3 a b) = (a, b) := by
  have : d3 = 0 ∨ d3 = 1 := by omega
  rcases this with rfl | rfl <;> rfl
theorem ch_store (hd : 0 ≤ d3 ∧ d3 < 2) (a b s : Sd) (i : Nat) (v : MV) (e : [dI (sel d3 a b).1, dI (sel d3 a b).2.1, .d (ti (sel d3 a b).2.2.1), .d (knD (sel d3 a b).2.2.2)].set i v = [dI s.1, dI s.2.1, .d (ti s.2.2.1), .d (knD s.2.2.2)]) :
    (hpC a b).set d3.toNat (.lst ([dI (sel d3 a b).1, dI (sel d3 a b).2.1, .d (ti (sel d3 a b).2.2.1), .d (knD (sel d3 a b).2.2.2)].set i v)) = hpC (chs d3 a b s).1 (chs d3 a b s).2 := by
  rw [e]; exact hp_set hd a b s
abbrev E7 (x : Int × Sd × Sd) (c d0 d1 d2 d3 : Int) : Env := envC x c d0 d1 d2 d3 (some (.ref 2)) (some (.ref d3.toNat)) none
theorem ch19 (hd : 0 ≤ d3 ∧ d3 < 2) (h1 : 0 ≤ d1 ∧ d1 < 3) (a b : Sd) (hs : (sel d3 a b).2.2.1.length ≤ 1000) : ∃ s : Sd, s.2.2.1.length ≤ 1000 ∧
    ml__law_changed_19 (E7 x c d0 d1 d2 d3) (hpC a b) = some (.nx (E7 x c d0 d1 d2 d3) (hpC (chs d3 a b s).1 (chs d3 a b s).2)) := by
  have hl := e_asL (hp_get hd a b)
  unfold ml__law_changed_19
  by_cases e4 : d0 = 7
  · obtain ⟨k, ek⟩ : ∃ k : Kd, ∀ h, mIx (.d (.list [.str "load", .str "store", .none])) (.d (.int d1)) h = some (.d (knD k), h) := by
      have : d1 = 0 ∨ d1 = 1 ∨ d1 = 2 := by omega
      rcases this with rfl | rfl | rfl
      · exact ⟨.ld, fun h => rfl⟩
      · exact ⟨.st, fun h => rfl⟩
      · exact ⟨.no, fun h => rfl⟩
    refine ⟨((sel d3 a b).1, (sel d3 a b).2.1, (sel d3 a b).2.2.1, k), hs, ?_⟩
    refine e_ifT (h1 := hpC a b) ((tdig 7).trans (by rw [decide_eq_true e4])) ?_
    rw [← ch_store hd a b ((sel d3 a b).1, (sel d3 a b).2.1, (sel d3 a b).2.2.1, k) 3 (.d (knD k)) rfl]
    unfold ml__law_changed_20 E7 envC
    walk_at "ev"
    rw [ek]
    walk_at "ev"
    rw [hl]
    rfl
  · refine ⟨sel d3 a b, hs, ?_⟩
    rw [chs_sel hd]
    exact e_ifF (h1 := hpC a b) ((tdig 7).trans (by rw [decide_eq_false e4])) rfl
theorem ch17 (hd : 0 ≤ d3 ∧ d3 < 2) (h1 : 0 ≤ d1 ∧ d1 < 3) (a b : Sd) (hs : (sel d3 a b).2.2.1.length ≤ 1000) : ∃ s : Sd, s.2.2.1.length ≤ 1000 ∧
    ml__law_changed_17 (E7 x c d0 d1 d2 d3) (hpC a b) = some (.nx (E7 x c d0 d1 d2 d3) (hpC (chs d3 a b s).1 (chs d3 a b s).2)) := by
  have hl := e_asL (hp_get hd a b)
  unfold ml__law_changed_17
  by_cases e4 : d0 = 6
  · refine ⟨((sel d3 a b).1, (sel d3 a b).2.1, (sel d3 a b).2.2.1.map (fun n => n + d1), (sel d3 a b).2.2.2), by rw [List.length_map]; exact hs, ?_⟩
    refine e_ifT (h1 := hpC a b) ((tdig 6).trans (by rw [decide_eq_true e4])) ?_
    rw [← ch_store hd a b ((sel d3 a b).1, (sel d3 a b).2.1, (sel d3 a b).2.2.1.map (fun n => n + d1), (sel d3 a b).2.2.2) 2 (.d (ti ((sel d3 a b).2.2.1.map (fun n => n + d1)))) rfl]
    unfold ml__law_changed_18 E7 envC
    walk_at "ev"
    rw [mLc_map (h1 := hpC a b) (sel d3 a b).2.2.1 dI (fun n => dI (n + d1))]
    · rw [show ((sel d3 a b).2.2.1.map fun n => dI (n + d1)) = ((sel d3 a b).2.2.1.map fun n => n + d1).map dI by rw [List.map_map]; rfl]
      walk_at "ev"
      rw [allD_dI]
      walk_at "ev"
      rw [hl]
      rfl
    · rw [e_tup (ds := (sel d3 a b).2.2.1.map .int) (h1 := hpC a b) (by
        walk_at "ev"
        rw [e_ixR (hp_get hd a b) (i := 2) (x := .d (ti (sel d3 a b).2.2.1)) rfl]), ii_map]
    · intro k hk
      walk_at "ev"
    · omega
  · obtain ⟨s, l, e⟩ := ch19 (x := x) (c := c) (d0 := d0) (d2 := d2) hd h1 a b hs
    exact ⟨s, l, e_ifF (h1 := hpC a b) ((tdig 6).trans (by rw [decide_eq_false e4])) e⟩
theorem ch15 (hd : 0 ≤ d3 ∧ d3 < 2) (h1 : 0 ≤ d1 ∧ d1 < 3) (a b : Sd) (hs : (sel d3 a b).2.2.1.length ≤ 1000) : ∃ s : Sd, s.2.2.1.length ≤ 1000 ∧
    ml__law_changed_15 (E7 x c d0 d1 d2 d3) (hpC a b) = some (.nx (E7 x c d0 d1 d2 d3) (hpC (chs d3 a b s).1 (chs d3 a b s).2)) := by
  have hl := e_asL (hp_get hd a b)
  unfold ml__law_changed_15
  by_cases e4 : d0 = 5
  · refine ⟨((sel d3 a b).1, (sel d3 a b).2.1 + 1 - d1, (sel d3 a b).2.2), hs, ?_⟩
    refine e_ifT (h1 := hpC a b) ((tdig 5).trans (by rw [decide_eq_true e4])) ?_
    rw [← ch_store hd a b ((sel d3 a b).1, (sel d3 a b).2.1 + 1 - d1, (sel d3 a b).2.2) 1 (dI ((sel d3 a b).2.1 + 1 - d1)) rfl]
    unfold ml__law_changed_16 E7 envC
    walk_at "ev"
    rw [e_ixR (hp_get hd a b) (i := 1) (x := dI (sel d3 a b).2.1) rfl]
    walk_at "ev"
    rw [hl]
    rfl
  · obtain ⟨s, l, e⟩ := ch17 (x := x) (c := c) (d0 := d0) (d2 := d2) hd h1 a b hs
    exact ⟨s, l, e_ifF (h1 := hpC a b) ((tdig 5).trans (by rw [decide_eq_false e4])) e⟩
theorem ch13 (hd : 0 ≤ d3 ∧ d3 < 2) (h1 : 0 ≤ d1 ∧ d1 < 3) (a b : Sd) (hs : (sel d3 a b).2.2.1.length ≤ 1000) : ∃ s : Sd, s.2.2.1.length ≤ 1000 ∧
    ml__law_changed_13 (E7 x c d0 d1 d2 d3) (hpC a b) = some (.nx (E7 x c d0 d1 d2 d3) (hpC (chs d3 a b s).1 (chs d3 a b s).2)) := by
  have hl := e_asL (hp_get hd a b)
  unfold ml__law_changed_13
  by_cases e4 : d0 = 4
  · refine ⟨(d1, (sel d3 a b).2), hs, ?_⟩
    refine e_ifT (h1 := hpC a b) ((tdig 4).trans (by rw [decide_eq_true e4])) ?_
    rw [← ch_store hd a b (d1, (sel d3 a b).2) 0 (dI d1) rfl]
    unfold ml__law_changed_14 E7 envC
    walk_at "ev"
    rw [hl]
    rfl
  · obtain ⟨s, l, e⟩ := ch15 (x := x) (c := c) (d0 := d0) (d2 := d2) hd h1 a b hs
    exact ⟨s, l, e_ifF (h1 := hpC a b) ((tdig 4).trans (by rw [decide_eq_false e4])) e⟩
/-! ### what is no paper -/
theorem bad_of {p : PyData} (e : pf_is_paper [p] = some (.bool false)) (q : ∀ x, PyData.eqv (xD x) p = false) (n : Nat) (hp : pl n p) (hn : n ≤ 64 := by decide) : Bad p := ⟨e, q, pl_sh hp hn⟩
theorem nt_paper {p : PyData} (k : String) (hk : G.kindOf p = k) (hb : kitB k "tuple" = some false) : pf_is_paper [p] = some (.bool false) := by
  have s1 : ml_is_paper_1 [some (.d p), none, none, none] [] = some (.rt (.d (.bool false)) []) := by
    unfold ml_is_paper_1
    refine e_ifT (h1 := []) ?_ ?_
    · unfold mc_is_paper_1
      walk_at "ev"
      rw [hk, hb]
      walk_at "ev"
    · unfold ml_is_paper_2
      walk_at "ev"
  unfold pf_is_paper m_is_paper
  walk_at "ev"
  rw [s1]
  walk_at "ev"
theorem nl_paper {ds : List PyData} (hl : ds.length ≠ 3) : pf_is_paper [.tuple ds] = some (.bool false) := by
  have s1 : ml_is_paper_1 [some (.d (.tuple ds)), none, none, none] [] = some (.rt (.d (.bool false)) []) := by
    unfold ml_is_paper_1
    refine e_ifT (h1 := []) ?_ ?_
    · unfold mc_is_paper_1
      walk_at "ev"
      rw [show kitB (G.kindOf (.tuple ds)) "tuple" = some true from kit_tt]
      walk_at "ev"
      simp [hl]
      omega
    · unfold ml_is_paper_2
      walk_at "ev"
  unfold pf_is_paper m_is_paper
  walk_at "ev"
  rw [s1]
  walk_at "ev"
end
theorem int_side (i : Int) : pf_is_side [.int i] = some (.bool false) := by
  have s1 : ml_is_side_1 [some (.d (.int i)), none, none, none, none] [] = some (.rt (.d (.bool false)) []) := by
    unfold ml_is_side_1
    refine e_ifT (h1 := []) ?_ ?_
    · unfold mc_is_side_1
      walk_at "ev"
      rw [show kitB (G.kindOf (.int i)) "tuple" = some false from kit_ti]
      walk_at "ev"
    · unfold ml_is_side_2
      walk_at "ev"
  unfold pf_is_side m_is_side
  walk_at "ev"
  rw [s1]
  walk_at "ev"
theorem nil_side : pf_is_side [.tuple []] = some (.bool false) := by
  have s1 : ml_is_side_1 [some (.d (.tuple [])), none, none, none, none] [] = some (.rt (.d (.bool false)) []) := by
    unfold ml_is_side_1
    refine e_ifT (h1 := []) ?_ ?_
    · unfold mc_is_side_1
      walk_at "ev"
      rw [show kitB (G.kindOf (.tuple [])) "tuple" = some true from kit_tt]
      walk_at "ev"
      rfl
    · unfold ml_is_side_2
      walk_at "ev"
  unfold pf_is_side m_is_side
  walk_at "ev"
  rw [s1]
  walk_at "ev"
theorem bs_paper {w : Int} {p q : PyData} (e : pf_is_side [p] = some (.bool false)) : pf_is_paper [.tuple [.int w, p, q]] = some (.bool false) := by
  unfold pf_is_paper m_is_paper ml_is_paper_1 ml_is_paper_3 ml_is_paper_4
  walk_at "ev"
  unfold mc_is_paper_1
  walk_at "ev"
  rw [show kitB (G.kindOf (.tuple [.int w, p, q])) "tuple" = some true from kit_tt]
  walk_at "ev"
  rw [if_neg (by decide)]
  walk_at "ev"
  rw [q_is_whole]
  walk_at "ev"
  rw [e]
  walk_at "ev"
theorem pl_s (s : Sd) : pl 2 (sD s) := ⟨Enc.sd.lay s, Enc.sd.dep s⟩
theorem bad_none : Bad .none := bad_of (nt_paper "NoneType" rfl kit_tn) (fun x => by simp [PyData.eqv]) 0 pl_none
theorem bad_int (i : Int) : Bad (.int i) := bad_of (nt_paper "int" rfl kit_ti) (fun x => by simp [PyData.eqv]) 0 (pl_int i)
theorem bad_tup {ds : List PyData} (hl : ds.length ≠ 3) (h : ∀ d ∈ ds, pl 3 d) (q : ∀ x, PyData.eqv (xD x) (.tuple ds) = false) : Bad (.tuple ds) := bad_of (nl_paper hl) q 4 (pl_tup h)
theorem bad_list {ds : List PyData} (h : ∀ d ∈ ds, pl 3 d) : Bad (.list ds) := bad_of (nt_paper "list" rfl kit_tl) (fun x => by simp [PyData.eqv]) 4 (pl_list h)
theorem q__law_changed (x : Int × Sd × Sd) (hx : okX x) (c : Int) : ∃ p, pf__law_changed [xD x, .int c] = some p ∧ ((∃ y, p = xD y ∧ okX y) ∨ Bad p) := by
  obtain ⟨d0, d1, d2, d3, ed, r0, r1, r2, r3⟩ := digs4 c
  have s1 : ml__law_changed_1 [some (.d (xD x)), some (dI c), none, none, none, none, none, none, none] [] = some (.nx [some (.d (xD x)), some (dI c), some (.d (.list [.int d0, .int d1, .int d2, .int d3])), none, none, none, none, none, none] []) := by
    unfold ml__law_changed_1
    walk_at "ev"
    rw [show PyData.list [.int 9, .int 3, .int 8, .int 2] = li [9, 3, 8, 2] from rfl, ed]
    walk_at "ev"
  have s2 : ml__law_changed_2 [some (.d (xD x)), some (dI c), some (.d (.list [.int d0, .int d1, .int d2, .int d3])), none, none, none, none, none, none] [] = some (.nx (envC x c d0 d1 d2 d3 none none none) []) := by
    unfold ml__law_changed_2 envC
    walk_at "ev"
  have fin : ∀ p h, (mSeq ml__law_changed_3 (mSeq ml__law_changed_5 (mSeq ml__law_changed_7 (mSeq ml__law_changed_9 (mSeq ml__law_changed_11 (mSeq ml__law_changed_12 (mSeq ml__law_changed_13 ml__law_changed_21))))))) (envC x c d0 d1 d2 d3 none none none) [] = some (.rt (.d p) h) → pf__law_changed [xD x, .int c] = some p := fun p h e => by
    unfold pf__law_changed m__law_changed
    walk_at "ev"
    rw [s1, Option.bind_some, e_seqN, e_mSeq s2, e]
    walk_at "ev"
  obtain ⟨w, a, b⟩ := x
  have ha : a.2.2.1.length ≤ 1000 := hx.1
  have hb : b.2.2.1.length ≤ 1000 := hx.2
  by_cases e0 : d0 = 0
  · refine ⟨xD (d2, a, b), fin _ [] (e_mSeqRt ?_), .inl ⟨_, rfl, ha, hb⟩⟩
    unfold ml__law_changed_3
    refine e_ifT (h1 := []) ((tdig 0).trans (by rw [decide_eq_true e0])) ?_
    unfold ml__law_changed_4 envC
    walk_at "ev"
  have n3 : ml__law_changed_3 (envC (w, a, b) c d0 d1 d2 d3 none none none) [] = some (.nx (envC (w, a, b) c d0 d1 d2 d3 none none none) []) := by
    unfold ml__law_changed_3
    exact e_ifF (h1 := []) ((tdig 0).trans (by rw [decide_eq_false e0])) rfl
  simp only [e_mSeq n3] at fin
  by_cases e1 : d0 = 1
  · refine ⟨xD (w, b, a), fin _ [] (e_mSeqRt ?_), .inl ⟨_, rfl, hb, ha⟩⟩
    unfold ml__law_changed_5
    refine e_ifT (h1 := []) ((tdig 1).trans (by rw [decide_eq_true e1])) ?_
    unfold ml__law_changed_6 envC
    walk_at "ev"
  have n5 : ml__law_changed_5 (envC (w, a, b) c d0 d1 d2 d3 none none none) [] = some (.nx (envC (w, a, b) c d0 d1 d2 d3 none none none) []) := by
    unfold ml__law_changed_5
    exact e_ifF (h1 := []) ((tdig 1).trans (by rw [decide_eq_false e1])) rfl
  simp only [e_mSeq n5] at fin
  by_cases e2 : d0 = 2
  · refine ⟨.tuple [.int w, sD a], fin _ [] (e_mSeqRt ?_), .inr (bad_tup (by simp) (fun d hd => ?_) fun x => by simp [PyData.eqv, PyData.eqvAll])⟩
    · unfold ml__law_changed_7
      refine e_ifT (h1 := []) ((tdig 2).trans (by rw [decide_eq_true e2])) ?_
      unfold ml__law_changed_8 envC
      walk_at "ev"
    · simp only [List.mem_cons, List.not_mem_nil, or_false] at hd
      rcases hd with rfl | rfl
      · exact pl_int _
      · exact pl_up (pl_s a) (by decide)
  have n7 : ml__law_changed_7 (envC (w, a, b) c d0 d1 d2 d3 none none none) [] = some (.nx (envC (w, a, b) c d0 d1 d2 d3 none none none) []) := by
    unfold ml__law_changed_7
    exact e_ifF (h1 := []) ((tdig 2).trans (by rw [decide_eq_false e2])) rfl
  simp only [e_mSeq n7] at fin
  by_cases e3 : d0 = 3
  · obtain ⟨p, ep, hp⟩ : ∃ p, (mIx (.d (.list [.none, .int 5, .tuple [], .tuple [.int w, .int 3, sD b], .list [.int w, sD a, sD b], .tuple [.int w, sD a, sD b, .int 0]])) (.d (.int (d2 % 6))) [] = some (.d p, [])) ∧ Bad p := by
      have : d2 % 6 = 0 ∨ d2 % 6 = 1 ∨ d2 % 6 = 2 ∨ d2 % 6 = 3 ∨ d2 % 6 = 4 ∨ d2 % 6 = 5 := by omega
      rcases this with e | e | e | e | e | e <;> rw [e]
      · exact ⟨_, rfl, bad_none⟩
      · exact ⟨_, rfl, bad_int 5⟩
      · exact ⟨_, rfl, bad_tup (by decide) (fun d hd => nomatch hd) fun x => by simp [PyData.eqv, PyData.eqvAll]⟩
      · exact ⟨_, rfl, bad_of (bs_paper (int_side 3)) (fun x => by simp [PyData.eqv, PyData.eqvAll]) 3 (pl_t3 (pl_int _) (pl_int _) (pl_s b))⟩
      · refine ⟨_, rfl, bad_list fun d hd => ?_⟩
        simp only [List.mem_cons, List.not_mem_nil, or_false] at hd
        rcases hd with rfl | rfl | rfl
        · exact pl_int _
        · exact pl_up (pl_s a) (by decide)
        · exact pl_up (pl_s b) (by decide)
      · refine ⟨_, rfl, bad_tup (by simp) (fun d hd => ?_) fun x => by simp [PyData.eqv, PyData.eqvAll]⟩
        simp only [List.mem_cons, List.not_mem_nil, or_false] at hd
        rcases hd with rfl | rfl | rfl | rfl
        · exact pl_int _
        · exact pl_up (pl_s a) (by decide)
        · exact pl_up (pl_s b) (by decide)
        · exact pl_int _
    refine ⟨p, fin _ [] (e_mSeqRt ?_), .inr hp⟩
    unfold ml__law_changed_9
    refine e_ifT (h1 := []) ((tdig 3).trans (by rw [decide_eq_true e3])) ?_
    unfold ml__law_changed_10 envC
    walk_at "ev"
    simp only [show mkTup [] = .d (.tuple []) from rfl]
    walk_at "ev"
    rw [ep]
    walk_at "ev"
  have n9 : ml__law_changed_9 (envC (w, a, b) c d0 d1 d2 d3 none none none) [] = some (.nx (envC (w, a, b) c d0 d1 d2 d3 none none none) []) := by
    unfold ml__law_changed_9
    exact e_ifF (h1 := []) ((tdig 3).trans (by rw [decide_eq_false e3])) rfl
  simp only [e_mSeq n9] at fin
  have hs : (sel d3 a b).2.2.1.length ≤ 1000 := by unfold sel; split <;> assumption
  obtain ⟨s, ls, es⟩ := ch13 (x := (w, a, b)) (c := c) (d0 := d0) (d2 := d2) r3 r1 a b hs
  refine ⟨xD (w, (chs d3 a b s).1, (chs d3 a b s).2), fin _ (hpC (chs d3 a b s).1 (chs d3 a b s).2) ?_, .inl ⟨_, rfl, ?_, ?_⟩⟩
  · rw [e_mSeq ch11, e_mSeq (ch12 r3), e_mSeq es]
    exact ch21 _ _
  · show (chs d3 a b s).1.2.2.1.length ≤ 1000
    unfold chs
    split <;> assumption
  · show (chs d3 a b s).2.2.2.1.length ≤ 1000
    unfold chs
    split <;> assumption
/-! ### the law -/
theorem e_testB {me : ME} {env : Env} {h h1 : MH} {b : Bool} (e : me env h = some (.d (.bool b), h1)) : mTest me env h = some (b, h1) := by
  unfold mTest
  rw [e]
  rfl
theorem q__law_side' (w : Int) (r : Rc) : pf__law_side [rcD r, .int w] = some (sD (sOf w r)) := by
  have e4 : ∀ x2, mc__law_side_2 [some (.d (rcD r)), some (dI w), x2] [] = some (isSt w r, []) := fun x2 => by
    unfold mc__law_side_2
    refine e_testB ?_
    simp only [mOp, mK, mVar, List.getElem?_cons_zero, List.getElem?_cons_succ, Option.bind_some, show mIx (.d (rcD r)) (.d (.int 4)) [] = some (.d (ti r.st), []) from e_ixT rfl]
    exact in_ti
  have e3 : ∀ x2, mc__law_side_4 [some (.d (rcD r)), some (dI w), x2] [] = some (decide (w ∈ r.ld), []) := fun x2 => by
    unfold mc__law_side_4
    refine e_testB ?_
    simp only [mOp, mK, mVar, List.getElem?_cons_zero, List.getElem?_cons_succ, Option.bind_some, show mIx (.d (rcD r)) (.d (.int 3)) [] = some (.d (ti r.ld), []) from e_ixT rfl]
    exact in_ti
  have s2 : ml__law_side_2 [some (.d (rcD r)), some (dI w), some (.d .none)] [] = some (.nx [some (.d (rcD r)), some (dI w), some (.d (knD (kOf w r)))] []) := by
    unfold ml__law_side_2
    by_cases h : isSt w r = true
    · refine e_ifT (h1 := []) ((e4 _).trans (by rw [h])) ?_
      unfold ml__law_side_3
      walk_at "ev"
      unfold kOf
      rw [if_pos h]
    · refine e_ifF (h1 := []) ((e4 _).trans (by rw [Bool.eq_false_iff.mpr h])) ?_
      unfold ml__law_side_4
      by_cases g : w ∈ r.ld
      · refine e_ifT (h1 := []) ((e3 _).trans (by rw [decide_eq_true g])) ?_
        unfold ml__law_side_5
        walk_at "ev"
        unfold kOf
        rw [if_neg h, if_pos (by unfold uses; simp [g])]
      · refine e_ifF (h1 := []) ((e3 _).trans (by rw [decide_eq_false g])) ?_
        have hs : w ∉ r.st := fun z => h (decide_eq_true z)
        unfold kOf
        rw [if_neg h, if_neg (by unfold uses; simp [g, hs])]
        rfl
  unfold pf__law_side m__law_side ml__law_side_1
  walk_at "ev"
  rw [s2]
  unfold ml__law_side_6
  walk_at "ev"
  rfl
theorem e_isiLR {n : Nat} {xs : List MV} {h h1 : MH} {me : ME} {env : Env} (e : me env h = some (.ref n, h1)) (hn : h1[n]? = some (.lst xs)) : mIsi "list" me env h = some (.d (.bool true), h1) := by
  unfold mIsi
  rw [e, Option.bind_some]
  simp only [hn]
  rw [show kitB "list" "list" = some true by decide +kernel]; rfl
def toRc (r : Rw) : Rc := ⟨r.p, r.n, r.c, ascU r.lo, ascU r.st⟩
theorem ascU_len : ∀ xs : List Int, (ascU xs).length ≤ xs.length := fun xs => nd_le ((ascU_asc xs).imp fun h => by omega) fun x hx => (mem_ascU (z := x) (xs := xs)).mp hx
theorem okX_Rt {m : Int} (hm : m ≤ 4) {rs : List Rc} (ok : ∀ r ∈ rs, okR m r) {x : Int × Sd × Sd} (h : Rt rs x) : okX x := by
  obtain ⟨a, ha, b, hb, _, _, ea, eb, _⟩ := h
  have h1 := (ok a ha).ck
  have h2 := (ok b hb).ck
  refine ⟨?_, ?_⟩
  · rw [← ea]; show a.ck.length ≤ 1000; omega
  · rw [← eb]; show b.ck.length ≤ 1000; omega
theorem in_good {P : List (Int × Sd × Sd)} {n : Nat} {h : MH} (hn : h[n]? = some (.lst (P.map fun x => .d (xD x)))) (x : Int × Sd × Sd) : mInD false (.d (xD x)) (.ref n) h = some (.d (.bool (decide (x ∈ P))), h) := by
  have := e_inR Enc.xd (neg := false) (a := x) (bs := P) (h := h) (x := .d (xD x)) (y := .ref n) (reify_d _ _ _) (re_lst xD hn)
  rw [this, if_neg (by decide)]
  exact congrArg (fun b => some (MV.d (.bool b), h)) (by by_cases q : x ∈ P <;> simp [q])
theorem in_bad {P : List (Int × Sd × Sd)} {n : Nat} {h : MH} (hn : h[n]? = some (.lst (P.map fun x => .d (xD x)))) {p : PyData} (hp : Bad p) : mInD false (.d p) (.ref n) h = some (.d (.bool false), h) := by
  unfold mInD
  rw [reify_d, Option.bind_some, re_lst xD hn, Option.bind_some]
  have ea : asDL (.list (P.map xD)) = some (P.map xD) := rfl
  rw [ea, Option.bind_some, if_pos ⟨hp.2.2, (Enc.xd.list).sh P⟩]
  have : ((P.map xD).any fun z => PyData.eqv z p) = false := by
    rw [List.any_map, List.any_eq_false]
    intro x _
    simp [hp.2.1 x]
  rw [this]
  rfl
abbrev LS := Option MV
def envL (ns : List Int) (m : Int) (cells : List Int) (x3 : LS) (rs : List Rc) (p : Nat) (x6 x7 x8 x9 x10 x11 x12 : LS) : Env := [some (.d (li ns)), some (dI m), some (.d (li cells)), x3, some (.d (.list (rs.map rcD))), some (.ref p), x6, x7, x8, x9, x10, x11, x12, none]
section
variable {ns cells : List Int} {m : Int} {TP0 : Addr} {rs : List Rc} {P : List (Int × Sd × Sd)} {p : Nat} {h : MH} {x3 x6 x7 x8 x9 x10 x11 x12 : LS}
theorem body1 (hm2 : m ≤ 4) (ok : ∀ r ∈ rs, okR m r) (hn : (rs.map kR).Nodup) (hz : rs.length ≤ 100) (hp : h[p]? = some (.lst (P.map fun x => .d (xD x)))) (hP : ∀ x, x ∈ P ↔ Rt rs x) (k : Nat) (hk : k < P.length) (hk2 : P.length ≤ 100000) :
    ∃ y6 y7, mb_law_5 TP0 (envL ns m cells (some (dI (k : Int))) rs p x6 x7 x8 x9 x10 x11 x12) h = some (.nx (envL ns m cells (some (dI (k : Int))) rs p y6 y7 x8 x9 x10 x11 x12) h) := by
  obtain ⟨x, ex⟩ : ∃ x, P[k]? = some x := ⟨P[k], List.getElem?_eq_getElem hk⟩
  have hx := (hP x).mp (List.mem_of_getElem? ex)
  have ox := okX_Rt hm2 ok hx
  have ei : mIx (.ref p) (.d (.int (k : Int))) h = some (.d (xD x), h) := by
    refine e_ixR hp ?_
    rw [atI_map, atI_get (by omega) (by omega) (x), List.getD_eq_getElem?_getD, Int.toNat_natCast, ex]
    rfl
  obtain ⟨v, ev, iv⟩ := q_is_right ok hn hz x ox
  have v1 : v = true := iv.mpr hx
  subst v1
  have s6 : ml_law_6 TP0 (envL ns m cells (some (dI (k : Int))) rs p x6 x7 x8 x9 x10 x11 x12) h = some (.nx (envL ns m cells (some (dI (k : Int))) rs p x6 x7 x8 x9 x10 x11 x12) h) := by
    unfold ml_law_6
    refine e_ifF (h1 := h) ?_ rfl
    unfold mc_law_6 envL
    walk_at "ev"
    rw [ei]
    walk_at "ev"
    rw [ev]
    walk_at "ev"
    rfl
  obtain ⟨q, eq, hq⟩ := q__law_changed x ox (ns.getD k 0 + 13 * (k : Int))
  have s8 : ml_law_8 TP0 (envL ns m cells (some (dI (k : Int))) rs p x6 x7 x8 x9 x10 x11 x12) h = some (.nx (envL ns m cells (some (dI (k : Int))) rs p (some (.d q)) x7 x8 x9 x10 x11 x12) h) := by
    unfold ml_law_8 envL
    walk_at "ev"
    rw [ei]
    walk_at "ev"
    rw [q__law_cell ns k (by omega)]
    walk_at "ev"
    rw [e_IC (cmul_l (by decide))]
    walk_at "ev"
    rw [Int.toNat_natCast, eq]
    walk_at "ev"
  obtain ⟨u, eu, ein⟩ : ∃ u, pf_is_right [q, .list (rs.map rcD)] = some (.bool u) ∧ mInD false (.d q) (.ref p) h = some (.d (.bool u), h) := by
    rcases hq with ⟨y, rfl, oy⟩ | hb
    · obtain ⟨v, ev, iv⟩ := q_is_right ok hn hz y oy
      refine ⟨v, ev, ?_⟩
      rw [in_good hp y]
      congr 4
      rw [Bool.eq_iff_iff, decide_eq_true_iff, iv, hP]
    · exact ⟨false, right_bad rs hb.1, in_bad hp hb⟩
  have s9 : ml_law_9 TP0 (envL ns m cells (some (dI (k : Int))) rs p (some (.d q)) x7 x8 x9 x10 x11 x12) h = some (.nx (envL ns m cells (some (dI (k : Int))) rs p (some (.d q)) (some (.d (.bool u))) x8 x9 x10 x11 x12) h) := by
    unfold ml_law_9 envL
    walk_at "ev"
    rw [eu]
    walk_at "ev"
  have s10 : ml_law_10 TP0 (envL ns m cells (some (dI (k : Int))) rs p (some (.d q)) (some (.d (.bool u))) x8 x9 x10 x11 x12) h = some (.nx (envL ns m cells (some (dI (k : Int))) rs p (some (.d q)) (some (.d (.bool u))) x8 x9 x10 x11 x12) h) := by
    unfold ml_law_10
    refine e_ifF (h1 := h) ?_ rfl
    unfold mc_law_10 envL
    walk_at "ev"
    rw [show kitB (G.kindOf (.bool u)) "bool" = some true from (by decide +kernel : kitB "bool" "bool" = some true)]
    walk_at "ev"
    rw [ein]
    walk_at "ev"
  refine ⟨some (.d q), some (.d (.bool u)), ?_⟩
  unfold mb_law_5
  rw [e_mSeq s6, e_mSeq s8, e_mSeq s9, s10]
theorem body2 (hm2 : m ≤ 4) (ok : ∀ r ∈ rs, okR m r) (hn : (rs.map kR).Nodup) (hz : rs.length ≤ 100) (hp : h[p]? = some (.lst (P.map fun x => .d (xD x)))) (hP : ∀ x, x ∈ P ↔ Rt rs x) (k : Nat) (hk : k < 3 * rs.length) :
    ∃ y8 y9 y10 y11, mb_law_12 TP0 (envL ns m cells (some (dI (k : Int))) rs p x6 x7 x8 x9 x10 x11 x12) h = some (.nx (envL ns m cells (some (dI (k : Int))) rs p x6 x7 y8 y9 y10 y11 x12) h) := by
  obtain ⟨ds, ed, hl, okd⟩ := q__law_digits (ns.getD k 0 + 29 * (k : Int)) [(rs.length : Int), (rs.length : Int), 8] (fun b hb => by simp at hb; omega) (by simp)
  match ds, hl with
  | [d0, d1, d2], _ =>
  have r0 := okd 0 (by simp)
  have r1 := okd 1 (by simp)
  simp at r0 r1
  have s13 : ml_law_13 TP0 (envL ns m cells (some (dI (k : Int))) rs p x6 x7 x8 x9 x10 x11 x12) h = some (.nx (envL ns m cells (some (dI (k : Int))) rs p x6 x7 (some (.d (.list [.int d0, .int d1, .int d2]))) x9 x10 x11 x12) h) := by
    unfold ml_law_13 envL
    walk_at "ev"
    rw [q__law_cell ns k (by omega)]
    walk_at "ev"
    rw [e_IC (cmul_l (by decide))]
    walk_at "ev"
    simp only [Int.toNat_natCast, List.length_map]
    rw [show PyData.list [.int (rs.length : Int), .int (rs.length : Int), .int 8] = li [(rs.length : Int), (rs.length : Int), 8] from rfl, ed]
    walk_at "ev"
    rfl
  obtain ⟨a, ha, ea⟩ : ∃ a, a ∈ rs ∧ ∀ h, mIx (.d (.list (rs.map rcD))) (.d (.int d0)) h = some (.d (rcD a), h) := by
    have hl0 : d0.toNat < rs.length := by omega
    refine ⟨rs[d0.toNat], List.getElem_mem _, fun h => e_ixL ?_⟩
    rw [atI_map, atI_get r0.1 (by omega) rs[d0.toNat], List.getD_eq_getElem?_getD, List.getElem?_eq_getElem hl0]
    rfl
  obtain ⟨b, hb, eb⟩ : ∃ b, b ∈ rs ∧ ∀ h, mIx (.d (.list (rs.map rcD))) (.d (.int d1)) h = some (.d (rcD b), h) := by
    have hl1 : d1.toNat < rs.length := by omega
    refine ⟨rs[d1.toNat], List.getElem_mem _, fun h => e_ixL ?_⟩
    rw [atI_map, atI_get r1.1 (by omega) rs[d1.toNat], List.getD_eq_getElem?_getD, List.getElem?_eq_getElem hl1]
    rfl
  have s14 : ml_law_14 TP0 (envL ns m cells (some (dI (k : Int))) rs p x6 x7 (some (.d (.list [.int d0, .int d1, .int d2]))) x9 x10 x11 x12) h = some (.nx (envL ns m cells (some (dI (k : Int))) rs p x6 x7 (some (.d (.list [.int d0, .int d1, .int d2]))) (some (.d (rcD a))) x10 x11 x12) h) := by
    unfold ml_law_14 envL
    walk_at "ev"
    rw [ea]
    walk_at "ev"
  have s15 : ml_law_15 TP0 (envL ns m cells (some (dI (k : Int))) rs p x6 x7 (some (.d (.list [.int d0, .int d1, .int d2]))) (some (.d (rcD a))) x10 x11 x12) h = some (.nx (envL ns m cells (some (dI (k : Int))) rs p x6 x7 (some (.d (.list [.int d0, .int d1, .int d2]))) (some (.d (rcD a))) (some (.d (rcD b))) x11 x12) h) := by
    unfold ml_law_15 envL
    walk_at "ev"
    rw [eb]
    walk_at "ev"
  have s16 : ml_law_16 TP0 (envL ns m cells (some (dI (k : Int))) rs p x6 x7 (some (.d (.list [.int d0, .int d1, .int d2]))) (some (.d (rcD a))) (some (.d (rcD b))) x11 x12) h = some (.nx (envL ns m cells (some (dI (k : Int))) rs p x6 x7 (some (.d (.list [.int d0, .int d1, .int d2]))) (some (.d (rcD a))) (some (.d (rcD b))) (some (.d (xD (d2, sOf d2 a, sOf d2 b)))) x12) h) := by
    unfold ml_law_16 envL
    walk_at "ev"
    rw [q__law_side']
    walk_at "ev"
    rw [q__law_side']
    walk_at "ev"
  have oy : okX (d2, sOf d2 a, sOf d2 b) := ⟨by show a.ck.length ≤ 1000; have := (ok a ha).ck; omega, by show b.ck.length ≤ 1000; have := (ok b hb).ck; omega⟩
  obtain ⟨v, ev, iv⟩ := q_is_right ok hn hz _ oy
  have ein : mInD false (.d (xD (d2, sOf d2 a, sOf d2 b))) (.ref p) h = some (.d (.bool v), h) := by
    rw [in_good hp]
    congr 4
    rw [Bool.eq_iff_iff, decide_eq_true_iff, iv, hP]
  have s17 : ml_law_17 TP0 (envL ns m cells (some (dI (k : Int))) rs p x6 x7 (some (.d (.list [.int d0, .int d1, .int d2]))) (some (.d (rcD a))) (some (.d (rcD b))) (some (.d (xD (d2, sOf d2 a, sOf d2 b)))) x12) h = some (.nx (envL ns m cells (some (dI (k : Int))) rs p x6 x7 (some (.d (.list [.int d0, .int d1, .int d2]))) (some (.d (rcD a))) (some (.d (rcD b))) (some (.d (xD (d2, sOf d2 a, sOf d2 b)))) x12) h) := by
    unfold ml_law_17
    refine e_ifF (h1 := h) ?_ rfl
    unfold mc_law_17 envL
    walk_at "ev"
    rw [ev]
    walk_at "ev"
    rw [ein]
    walk_at "ev"
  refine ⟨some (.d (.list [.int d0, .int d1, .int d2])), some (.d (rcD a)), some (.d (rcD b)), some (.d (xD (d2, sOf d2 a, sOf d2 b))), ?_⟩
  unfold mb_law_12
  rw [e_mSeq s13, e_mSeq s14, e_mSeq s15, e_mSeq s16, s17]
theorem body3 (d : PyData) (hd : pf_is_right [d, .list []] = some (.bool false)) : mb_law_19 TP0 (envL ns m cells x3 rs p x6 x7 x8 x9 x10 x11 (some (.d d))) h = some (.nx (envL ns m cells x3 rs p x6 x7 x8 x9 x10 x11 (some (.d d))) h) := by
  unfold mb_law_19 ml_law_20
  refine e_ifF (h1 := h) ?_ rfl
  unfold mc_law_20 envL
  walk_at "ev"
  rw [hd]
  walk_at "ev"
  rfl
end
section
variable {ns cells : List Int} {m : Int} {TP0 : Addr} {h : MH}
abbrev env4 (ns : List Int) (m : Int) (cells : List Int) (x4 x5 : LS) : Env := [some (.d (li ns)), some (dI m), some (.d (li cells)), none, x4, x5, none, none, none, none, none, none, none, none]
theorem law3 (hm : 2 ≤ m) (hm2 : m ≤ 4) (hk2 : cells.length ≤ 24) : ∃ rs : List Rc, (∀ r ∈ rs, okR m r) ∧ (rs.map kR).Nodup ∧ rs.length ≤ 24 ∧
    ml_law_3 TP0 (env4 ns m cells none none) h = some (.nx (env4 ns m cells (some (.d (.list (rs.map rcD)))) none) h) := by
  obtain ⟨rs, cs, e, R⟩ := q__law_run cells m hm hm2 hk2
  refine ⟨rs.map toRc, fun r hr => ?_, ?_, by rw [List.length_map, R.len]; exact hk2, ?_⟩
  · obtain ⟨w, hw, rfl⟩ := List.mem_map.mp hr
    have := R.rp w hw
    have l := R.rl w hw
    refine ⟨this.1, this.2, R.rc w hw, Nat.le_trans (ascU_len _) l.1.1, Nat.le_trans (ascU_len _) l.2.1, fun v hv => ?_⟩
    unfold uses at hv
    rw [Bool.or_eq_true, decide_eq_true_iff, decide_eq_true_iff] at hv
    rcases hv with hv | hv
    · exact l.1.2 v ((mem_ascU (z := v) (xs := w.lo)).mp hv)
    · exact l.2.2 v ((mem_ascU (z := v) (xs := w.st)).mp hv)
  · rw [List.map_map]; exact R.nd
  · unfold ml_law_3
    walk_at "ev"
    rw [mLc_map (h1 := h) rs (fun r => .d (rwD r)) (fun r => .d (rcD (toRc r)))]
    · walk_at "ev"
      rw [e_allDf]
      walk_at "ev"
      rw [List.map_map]
      rfl
    · rw [e_lst (ds := rs.map rwD) (h1 := h) (by walk_at "ev"; rw [e]; walk_at "ev"), List.map_map]; rfl
    · intro r hr
      have l := R.rl r hr
      walk_at "ev"
      rw [q_make_record r.p r.n r.c r.lo r.st (by have := l.1.1; omega) (by have := l.2.1; omega)]
      walk_at "ev"
      rfl
    · rw [R.len]; omega
end
theorem tell (ns : List Int) (TP0 : Addr) (hl : ns.length ≤ 63) : ∃ h', fn_law TP0 [.d (.list (ns.map .int))] [.tab TP0 (qlam "ascending")] = some (.d (.bool true), h') := by
  obtain ⟨m, hmd⟩ : ∃ m, m = 2 + ns.getD (Int.toNat 0) 0 % 3 := ⟨_, rfl⟩
  have hm : 2 ≤ m := by have := Int.emod_nonneg (ns.getD (Int.toNat 0) 0) (show (3 : Int) ≠ 0 by decide); omega
  have hm2 : m ≤ 4 := by have := Int.emod_lt_of_pos (ns.getD (Int.toNat 0) 0) (show (0 : Int) < 3 by decide); omega
  have s1 : ml_law_1 TP0 [some (.d (li ns)), none, none, none, none, none, none, none, none, none, none, none, none, none] [.tab TP0 (qlam "ascending")] = some (.nx [some (.d (li ns)), some (dI m), none, none, none, none, none, none, none, none, none, none, none, none] [.tab TP0 (qlam "ascending")]) := by
    unfold ml_law_1
    walk_at "ev"
    rw [q__law_cell ns 0 (by decide)]
    walk_at "ev"
    rw [hmd]
  obtain ⟨mx, hmx0, hmx1, em⟩ : ∃ mx : Int, 0 ≤ mx ∧ mx ≤ 14 ∧ pf__law_many [li ns, .int 8, .int 14] = some (.int mx) := by
    rcases q__law_many ns 8 14 with e | e
    · exact ⟨8, by decide, by decide, e⟩
    · exact ⟨14, by decide, by decide, e⟩
  obtain ⟨cells, hcl, s2⟩ : ∃ cells : List Int, cells.length ≤ 24 ∧ ml_law_2 TP0 [some (.d (li ns)), some (dI m), none, none, none, none, none, none, none, none, none, none, none, none] [.tab TP0 (qlam "ascending")] = some (.nx (env4 ns m cells none none) [.tab TP0 (qlam "ascending")]) := by
    refine ⟨(List.range (min ns.length mx.toNat)).map fun k => ns.getD k 0, by simp; omega, ?_⟩
    unfold ml_law_2
    walk_at "ev"
    rw [mLc_map (h1 := [.tab TP0 (qlam "ascending")]) (List.range (min ns.length mx.toNat)) (fun (k : Nat) => dI (k : Int)) (fun (k : Nat) => dI (ns.getD k 0))]
    · rw [show ((List.range (min ns.length mx.toNat)).map fun (k : Nat) => dI (ns.getD k 0)) = ((List.range (min ns.length mx.toNat)).map fun k => ns.getD k 0).map dI by rw [List.map_map]; rfl]
      generalize ((List.range (min ns.length mx.toNat)).map fun k => ns.getD k 0) = ws
      walk_at "ev"
      rw [allD_dI]
      walk_at "ev"
    · have := e_rng1 (ma := mCons (mCB (liftD fMin2) (mCons (mCB mLen (mCons (mVar 0) mNil)) (mCons (mCB (liftD pf__law_many) (mCons (mVar 0) (mCons (mK (.int 8)) (mCons (mK (.int 14)) mNil)))) mNil))) mNil) (env := [some (.d (li ns)), some (dI m), none, none, none, none, none, none, none, none, none, none, none, none]) (h := [.tab TP0 (qlam "ascending")]) (h1 := [.tab TP0 (qlam "ascending")]) (n := min (ns.length : Int) mx) (by
        walk_at "ev"
        rw [em]
        walk_at "ev"
        simp only [List.length_map]) (by omega) (by omega)
      rw [show (min (ns.length : Int) mx).toNat = min ns.length mx.toNat by omega] at this
      exact this
    · intro k hk
      walk_at "ev"
      rw [q__law_cell ns k (by omega)]
      walk_at "ev"
      rw [Int.toNat_natCast]
    · simp; omega
  obtain ⟨rs, ok, hn, hz, s3⟩ := law3 (ns := ns) (cells := cells) (m := m) (TP0 := TP0) (h := [.tab TP0 (qlam "ascending")]) hm hm2 hcl
  obtain ⟨p, h4, W, e4, p4, old4, w4, mw4⟩ := q_report (TP0 := TP0) m rs ok (by omega) [.tab TP0 (qlam "ascending")] rfl
  have s4 : ml_law_4 TP0 (env4 ns m cells (some (.d (.list (rs.map rcD)))) none) [.tab TP0 (qlam "ascending")] = some (.nx (envL ns m cells none rs p none none none none none none none) h4) := by
    unfold ml_law_4 envL
    walk_at "ev"
    rw [e4]
    walk_at "ev"
  obtain ⟨P, eP⟩ : ∃ P, P = (PT rs W).map xOf := ⟨_, rfl⟩
  have hP : ∀ x, x ∈ P ↔ Rt rs x := fun x => by rw [eP]; exact mem_x hn mw4 x
  have pP : h4[p]? = some (.lst (P.map fun x => .d (xD x))) := by
    rw [p4]
    have := papers_x hn mw4
    rw [← eP] at this
    have := congrArg (fun l => List.map MV.d l) this
    simp only [List.map_map] at this
    exact congrArg (fun l => some (Ob.lst l)) this
  have hlA : (asc rs).length ≤ 100 := by
    have := (List.mergeSort_perm rs (fun a b => !kLt (kR b) (kR a))).length_eq
    unfold asc
    omega
  have lP : P.length ≤ 100000 := by
    have l8 : W.length ≤ 8 := le8 (w4.imp fun h => by omega) fun w hw => by
      obtain ⟨a, ha⟩ := List.exists_mem_of_ne_nil _ ((mw4 w).mp hw)
      have ha := List.mem_filter.mp ha
      exact (ok a ((List.mergeSort_perm rs _).mem_iff.mp ha.1)).us w ha.2
    have h1 := fm_len (xs := W) (f := fun w => PW w ((asc rs).filter (uses w))) (n := 10000) fun w _ => PW_len w _ (Nat.le_trans (List.length_filter_le _ _) hlA)
    have h3 := Nat.mul_le_mul_right 10000 l8
    rw [eP, List.length_map]
    unfold PT
    omega
  obtain ⟨env5, h5, e5, z3, z6, z7, rfl, rfl⟩ := mFor_inv (mi := mRng1 (mCons (mCB mLen (mCons (mVar 5) mNil)) mNil)) (g := mgName 3) (mb := mb_law_5 TP0)
    (env := envL ns m cells none rs p none none none none none none none) (h := h4) (List.range P.length) (fun (k : Nat) => dI (k : Int)) (h1 := h4)
    (by
      have := e_rng1 (ma := mCons (mCB mLen (mCons (mVar 5) mNil)) mNil) (env := envL ns m cells none rs p none none none none none none none) (h := h4) (h1 := h4) (n := (P.length : Int)) (by
        unfold envL
        walk_at "ev"
        rw [show itemsOf h4 (.ref p) = some (P.map fun x => .d (xD x)) from by
          show (asL h4 (.ref p)).map (fun x => x.2) = _
          rw [e_asL pP]; rfl]
        walk_at "ev"
        simp only [List.length_map]) (by omega) (by omega)
      rw [Int.toNat_natCast] at this
      exact this)
    (fun i env h => ∃ z3 z6 z7, env = envL ns m cells z3 rs p z6 z7 none none none none none ∧ h = h4)
    ⟨none, none, none, rfl, rfl⟩ (by
      rintro i k env h hi ⟨z3, z6, z7, rfl, rfl⟩
      obtain ⟨hlt, hk⟩ := List.getElem?_eq_some_iff.mp hi
      rw [List.getElem_range] at hk
      subst hk
      rw [List.length_range] at hlt
      obtain ⟨y6, y7, e⟩ := body1 (ns := ns) (cells := cells) (TP0 := TP0) (x6 := z6) (x7 := z7) (x8 := none) (x9 := none) (x10 := none) (x11 := none) (x12 := none) hm2 ok hn (by omega) pP hP i hlt lP
      exact ⟨_, _, _, rfl, e, _, y6, y7, rfl, rfl⟩)
  have s5 : ml_law_5 TP0 (envL ns m cells none rs p none none none none none none none) h5 = some (.nx (envL ns m cells z3 rs p z6 z7 none none none none none) h5) := e5
  obtain ⟨env6, h6, e6, y3, y8, y9, y10, y11, rfl, rfl⟩ := mFor_inv (mi := mRng1 (mCons (mOp (mIC (fun i j => CMul i j ∨ CMulW i j) fun i j => i * j) (mK (.int 3)) (mCB mLen (mCons (mVar 4) mNil))) mNil)) (g := mgName 3) (mb := mb_law_12 TP0)
    (env := envL ns m cells z3 rs p z6 z7 none none none none none) (h := h5) (List.range (3 * rs.length)) (fun (k : Nat) => dI (k : Int)) (h1 := h5)
    (by
      have := e_rng1 (ma := mCons (mOp (mIC (fun i j => CMul i j ∨ CMulW i j) fun i j => i * j) (mK (.int 3)) (mCB mLen (mCons (mVar 4) mNil))) mNil) (env := envL ns m cells z3 rs p z6 z7 none none none none none) (h := h5) (h1 := h5) (n := 3 * (rs.length : Int)) (by
        unfold envL
        walk_at "ev"
        rw [e_IC (cmul_l (by decide))]
        walk_at "ev"
        simp only [List.length_map]) (by omega) (by omega)
      rw [show (3 * (rs.length : Int)).toNat = 3 * rs.length by omega] at this
      exact this)
    (fun i env h => ∃ y3 y8 y9 y10 y11, env = envL ns m cells y3 rs p z6 z7 y8 y9 y10 y11 none ∧ h = h5)
    ⟨z3, none, none, none, none, rfl, rfl⟩ (by
      rintro i k env h hi ⟨y3, y8, y9, y10, y11, rfl, rfl⟩
      obtain ⟨hlt, hk⟩ := List.getElem?_eq_some_iff.mp hi
      rw [List.getElem_range] at hk
      subst hk
      rw [List.length_range] at hlt
      obtain ⟨a8, a9, a10, a11, e⟩ := body2 (ns := ns) (cells := cells) (TP0 := TP0) (x6 := z6) (x7 := z7) (x8 := y8) (x9 := y9) (x10 := y10) (x11 := y11) (x12 := none) hm2 ok hn (by omega) pP hP i hlt
      exact ⟨_, _, _, rfl, e, _, a8, a9, a10, a11, rfl, rfl⟩)
  have s12 : ml_law_12 TP0 (envL ns m cells z3 rs p z6 z7 none none none none none) h6 = some (.nx (envL ns m cells y3 rs p z6 z7 y8 y9 y10 y11 none) h6) := e6
  obtain ⟨vals, hv⟩ : ∃ vals : List PyData, vals = [.none, .int 5, .str "", .tuple [], .list [], .tuple [.int 0, .tuple [], .tuple []], xD (3, (0, 1, [1, 0], .st), (1, 9, [9, 9], .st))] := ⟨_, rfl⟩
  have hr : ∀ d ∈ vals, pf_is_right [d, .list []] = some (.bool false) := fun d hd => by
    rw [hv] at hd
    simp only [List.mem_cons, List.not_mem_nil, or_false] at hd
    rcases hd with rfl | rfl | rfl | rfl | rfl | rfl | rfl
    · exact right_bad [] (nt_paper "NoneType" rfl kit_tn)
    · exact right_bad [] (nt_paper "int" rfl kit_ti)
    · exact right_bad [] (nt_paper "str" rfl kit_ts)
    · exact right_bad [] (nl_paper (by decide))
    · exact right_bad [] (nt_paper "list" rfl kit_tl)
    · exact right_bad [] (bs_paper nil_side)
    · obtain ⟨v, ev, iv⟩ := q_is_right (m := m) (rs := []) (fun _ q => nomatch q) List.nodup_nil (by decide) (3, (0, 1, [1, 0], .st), (1, 9, [9, 9], .st)) ⟨by decide, by decide⟩
      have : v = false := Bool.eq_false_iff.mpr fun z => by
        obtain ⟨a, ha, _⟩ := iv.mp z
        cases ha
      subst this
      exact ev
  obtain ⟨env7, h7, e7, y12, rfl, rfl⟩ := mFor_inv (mi := mItT (mTup (mCons (mK .none) (mCons (mK (.int 5)) (mCons (mK (.str "")) (mCons (mTup mNil) (mCons (mDat (mLst mNil)) (mCons (mTup (mCons (mK (.int 0)) (mCons (mTup mNil) (mCons (mTup mNil) mNil)))) (mCons (mTup (mCons (mK (.int 3)) (mCons (mTup (mCons (mK (.int 0)) (mCons (mK (.int 1)) (mCons (mTup (mCons (mK (.int 1)) (mCons (mK (.int 0)) mNil))) (mCons (mK (.str "store")) mNil))))) (mCons (mTup (mCons (mK (.int 1)) (mCons (mK (.int 9)) (mCons (mTup (mCons (mK (.int 9)) (mCons (mK (.int 9)) mNil))) (mCons (mK (.str "store")) mNil))))) mNil)))) mNil))))))))) (g := mgName 12) (mb := mb_law_19 TP0)
    (env := envL ns m cells y3 rs p z6 z7 y8 y9 y10 y11 none) (h := h6) vals .d (h1 := h6)
    (by
      refine e_tup ?_
      rw [hv]
      rfl)
    (fun i env h => ∃ y12, env = envL ns m cells y3 rs p z6 z7 y8 y9 y10 y11 y12 ∧ h = h6)
    ⟨none, rfl, rfl⟩ (by
      rintro i d env h hi ⟨y12, rfl, rfl⟩
      exact ⟨_, _, _, rfl, body3 d (hr d (List.mem_of_getElem? hi)), _, rfl, rfl⟩)
  have s19 : ml_law_19 TP0 (envL ns m cells y3 rs p z6 z7 y8 y9 y10 y11 none) h7 = some (.nx (envL ns m cells y3 rs p z6 z7 y8 y9 y10 y11 y12) h7) := e7
  refine ⟨h7, ?_⟩
  unfold fn_law m_law
  walk_at "ev"
  rw [s1, Option.bind_some, e_seqN, e_mSeq s2, e_mSeq s3, e_mSeq s4, e_mSeq s5, e_mSeq s12, e_mSeq s19]
  unfold ml_law_22
  walk_at "ev"
theorem all_mk {l : PySem.W.OpenLaw} {w : World} {K : PySem.W.Frag} {h : Heap} {mg : Str → Option Value} {fa f0 f1 f2 f3 f4 f5 f6 f7 f8 f9 f10 f11 f12 f13 f14 f15 f16 f17 f18 f19 f20 f21 f22 f23 f24 f25 : Addr} (X : K.In h) (G : h.Ns mainGlobals mg) (hfa : mg "law" = some (.ref fa))
    {q : Program} (own : ∀ nm : Str, ((recsOf q).any fun e => e.name == nm) = true → ∀ ga, mg nm = some (.ref ga) → LamX.OwnTab K ga h) (rq0 : ((recsOf q).any fun e => e.name == "ascending") = true)
    {od0 an0 : Option Addr} {sl0 : Array (Option Value)} {oc0 kV0 dc0 pm0 cd0 ct0 : Value}
    (a0 : PySem.W.nsIn K mainGlobals "covers" = some (some (.ref f0))) (l0 : K.lookup f0 = some ⟨oc0, od0, .func (PySem.W.fnOf "covers" "covers" (defArgs s_covers) (defBody s_covers) (defScope s_covers) .none kV0 dc0 pm0 an0 cd0 ct0), sl0⟩) (c0 : PySem.W.codeIn K cd0 "covers" = true) (k0 : PySem.W.keepIn K (.ref f0) = true)
    {od1 an1 : Option Addr} {sl1 : Array (Option Value)} {oc1 kV1 dc1 pm1 cd1 ct1 : Value}
    (a1 : PySem.W.nsIn K mainGlobals "each_once" = some (some (.ref f1))) (l1 : K.lookup f1 = some ⟨oc1, od1, .func (PySem.W.fnOf "each_once" "each_once" (defArgs s_each_once) (defBody s_each_once) (defScope s_each_once) .none kV1 dc1 pm1 an1 cd1 ct1), sl1⟩) (c1 : PySem.W.codeIn K cd1 "each_once" = true) (k1 : PySem.W.keepIn K (.ref f1) = true)
    {od2 an2 : Option Addr} {sl2 : Array (Option Value)} {oc2 kV2 dc2 pm2 cd2 ct2 : Value}
    (a2 : PySem.W.nsIn K mainGlobals "make_record" = some (some (.ref f2))) (l2 : K.lookup f2 = some ⟨oc2, od2, .func (PySem.W.fnOf "make_record" "make_record" (defArgs s_make_record) (defBody s_make_record) (defScope s_make_record) .none kV2 dc2 pm2 an2 cd2 ct2), sl2⟩) (c2 : PySem.W.codeIn K cd2 "make_record" = true) (k2 : PySem.W.keepIn K (.ref f2) = true)
    {od3 an3 : Option Addr} {sl3 : Array (Option Value)} {oc3 kV3 dc3 pm3 cd3 ct3 : Value}
    (a3 : PySem.W.nsIn K mainGlobals "is_same" = some (some (.ref f3))) (l3 : K.lookup f3 = some ⟨oc3, od3, .func (PySem.W.fnOf "is_same" "is_same" (defArgs s_is_same) (defBody s_is_same) (defScope s_is_same) .none kV3 dc3 pm3 an3 cd3 ct3), sl3⟩) (c3 : PySem.W.codeIn K cd3 "is_same" = true) (k3 : PySem.W.keepIn K (.ref f3) = true)
    {od4 an4 : Option Addr} {sl4 : Array (Option Value)} {oc4 kV4 dc4 pm4 cd4 ct4 : Value}
    (a4 : PySem.W.nsIn K mainGlobals "is_covered" = some (some (.ref f4))) (l4 : K.lookup f4 = some ⟨oc4, od4, .func (PySem.W.fnOf "is_covered" "is_covered" (defArgs s_is_covered) (defBody s_is_covered) (defScope s_is_covered) .none kV4 dc4 pm4 an4 cd4 ct4), sl4⟩) (c4 : PySem.W.codeIn K cd4 "is_covered" = true) (k4 : PySem.W.keepIn K (.ref f4) = true)
    {od5 an5 : Option Addr} {sl5 : Array (Option Value)} {oc5 kV5 dc5 pm5 cd5 ct5 : Value}
    (a5 : PySem.W.nsIn K mainGlobals "is_before" = some (some (.ref f5))) (l5 : K.lookup f5 = some ⟨oc5, od5, .func (PySem.W.fnOf "is_before" "is_before" (defArgs s_is_before) (defBody s_is_before) (defScope s_is_before) .none kV5 dc5 pm5 an5 cd5 ct5), sl5⟩) (c5 : PySem.W.codeIn K cd5 "is_before" = true) (k5 : PySem.W.keepIn K (.ref f5) = true)
    {od6 an6 : Option Addr} {sl6 : Array (Option Value)} {oc6 kV6 dc6 pm6 cd6 ct6 : Value}
    (a6 : PySem.W.nsIn K mainGlobals "are_unordered" = some (some (.ref f6))) (l6 : K.lookup f6 = some ⟨oc6, od6, .func (PySem.W.fnOf "are_unordered" "are_unordered" (defArgs s_are_unordered) (defBody s_are_unordered) (defScope s_are_unordered) .none kV6 dc6 pm6 an6 cd6 ct6), sl6⟩) (c6 : PySem.W.codeIn K cd6 "are_unordered" = true) (k6 : PySem.W.keepIn K (.ref f6) = true)
    {tc0 tp0 : Addr} {te0 : Value} {td0 : Option Addr} {tv0 : Array Value} {ts0 : Array (Option Value)}
    {od7 an7 : Option Addr} {sl7 : Array (Option Value)} {oc7 kV7 dc7 pm7 ct7 : Value}
    (a7 : PySem.W.nsIn K mainGlobals "ascending" = some (some (.ref f7))) (l7 : K.lookup f7 = some ⟨oc7, od7, .func (PySem.W.fnOf "ascending" "ascending" (defArgs s_ascending) (defBody s_ascending) (defScope s_ascending) .none kV7 dc7 pm7 an7 (.ref tc0) ct7), sl7⟩) (c7 : PySem.W.codeIn K (.ref tc0) "ascending" = true) (k7 : PySem.W.keepIn K (.ref f7) = true)
    (tl0 : K.lookup tc0 = some ⟨te0, td0, .fields tv0, ts0⟩) (tw0 : tv0[11]? = some (.ref tp0)) (tn0 : K.lookup tp0 = none) (th0 : PySem.W.codeHdIn K tc0 tp0 = true)
    {od8 an8 : Option Addr} {sl8 : Array (Option Value)} {oc8 kV8 dc8 pm8 cd8 ct8 : Value}
    (a8 : PySem.W.nsIn K mainGlobals "is_whole" = some (some (.ref f8))) (l8 : K.lookup f8 = some ⟨oc8, od8, .func (PySem.W.fnOf "is_whole" "is_whole" (defArgs s_is_whole) (defBody s_is_whole) (defScope s_is_whole) .none kV8 dc8 pm8 an8 cd8 ct8), sl8⟩) (c8 : PySem.W.codeIn K cd8 "is_whole" = true) (k8 : PySem.W.keepIn K (.ref f8) = true)
    {od9 an9 : Option Addr} {sl9 : Array (Option Value)} {oc9 kV9 dc9 pm9 cd9 ct9 : Value}
    (a9 : PySem.W.nsIn K mainGlobals "kind_of" = some (some (.ref f9))) (l9 : K.lookup f9 = some ⟨oc9, od9, .func (PySem.W.fnOf "kind_of" "kind_of" (defArgs s_kind_of) (defBody s_kind_of) (defScope s_kind_of) .none kV9 dc9 pm9 an9 cd9 ct9), sl9⟩) (c9 : PySem.W.codeIn K cd9 "kind_of" = true) (k9 : PySem.W.keepIn K (.ref f9) = true)
    {od10 an10 : Option Addr} {sl10 : Array (Option Value)} {oc10 kV10 dc10 pm10 cd10 ct10 : Value}
    (a10 : PySem.W.nsIn K mainGlobals "sides_of" = some (some (.ref f10))) (l10 : K.lookup f10 = some ⟨oc10, od10, .func (PySem.W.fnOf "sides_of" "sides_of" (defArgs s_sides_of) (defBody s_sides_of) (defScope s_sides_of) .none kV10 dc10 pm10 an10 cd10 ct10), sl10⟩) (c10 : PySem.W.codeIn K cd10 "sides_of" = true) (k10 : PySem.W.keepIn K (.ref f10) = true)
    {od11 an11 : Option Addr} {sl11 : Array (Option Value)} {oc11 kV11 dc11 pm11 cd11 ct11 : Value}
    (a11 : PySem.W.nsIn K mainGlobals "do_race" = some (some (.ref f11))) (l11 : K.lookup f11 = some ⟨oc11, od11, .func (PySem.W.fnOf "do_race" "do_race" (defArgs s_do_race) (defBody s_do_race) (defScope s_do_race) .none kV11 dc11 pm11 an11 cd11 ct11), sl11⟩) (c11 : PySem.W.codeIn K cd11 "do_race" = true) (k11 : PySem.W.keepIn K (.ref f11) = true)
    {od12 an12 : Option Addr} {sl12 : Array (Option Value)} {oc12 kV12 dc12 pm12 cd12 ct12 : Value}
    (a12 : PySem.W.nsIn K mainGlobals "papers_of" = some (some (.ref f12))) (l12 : K.lookup f12 = some ⟨oc12, od12, .func (PySem.W.fnOf "papers_of" "papers_of" (defArgs s_papers_of) (defBody s_papers_of) (defScope s_papers_of) .none kV12 dc12 pm12 an12 cd12 ct12), sl12⟩) (c12 : PySem.W.codeIn K cd12 "papers_of" = true) (k12 : PySem.W.keepIn K (.ref f12) = true)
    {od13 an13 : Option Addr} {sl13 : Array (Option Value)} {oc13 kV13 dc13 pm13 cd13 ct13 : Value}
    (a13 : PySem.W.nsIn K mainGlobals "report" = some (some (.ref f13))) (l13 : K.lookup f13 = some ⟨oc13, od13, .func (PySem.W.fnOf "report" "report" (defArgs s_report) (defBody s_report) (defScope s_report) .none kV13 dc13 pm13 an13 cd13 ct13), sl13⟩) (c13 : PySem.W.codeIn K cd13 "report" = true) (k13 : PySem.W.keepIn K (.ref f13) = true)
    {od14 an14 : Option Addr} {sl14 : Array (Option Value)} {oc14 kV14 dc14 pm14 cd14 ct14 : Value}
    (a14 : PySem.W.nsIn K mainGlobals "is_clock" = some (some (.ref f14))) (l14 : K.lookup f14 = some ⟨oc14, od14, .func (PySem.W.fnOf "is_clock" "is_clock" (defArgs s_is_clock) (defBody s_is_clock) (defScope s_is_clock) .none kV14 dc14 pm14 an14 cd14 ct14), sl14⟩) (c14 : PySem.W.codeIn K cd14 "is_clock" = true) (k14 : PySem.W.keepIn K (.ref f14) = true)
    {od15 an15 : Option Addr} {sl15 : Array (Option Value)} {oc15 kV15 dc15 pm15 cd15 ct15 : Value}
    (a15 : PySem.W.nsIn K mainGlobals "is_side" = some (some (.ref f15))) (l15 : K.lookup f15 = some ⟨oc15, od15, .func (PySem.W.fnOf "is_side" "is_side" (defArgs s_is_side) (defBody s_is_side) (defScope s_is_side) .none kV15 dc15 pm15 an15 cd15 ct15), sl15⟩) (c15 : PySem.W.codeIn K cd15 "is_side" = true) (k15 : PySem.W.keepIn K (.ref f15) = true)
    {od16 an16 : Option Addr} {sl16 : Array (Option Value)} {oc16 kV16 dc16 pm16 cd16 ct16 : Value}
    (a16 : PySem.W.nsIn K mainGlobals "is_paper" = some (some (.ref f16))) (l16 : K.lookup f16 = some ⟨oc16, od16, .func (PySem.W.fnOf "is_paper" "is_paper" (defArgs s_is_paper) (defBody s_is_paper) (defScope s_is_paper) .none kV16 dc16 pm16 an16 cd16 ct16), sl16⟩) (c16 : PySem.W.codeIn K cd16 "is_paper" = true) (k16 : PySem.W.keepIn K (.ref f16) = true)
    {od17 an17 : Option Addr} {sl17 : Array (Option Value)} {oc17 kV17 dc17 pm17 cd17 ct17 : Value}
    (a17 : PySem.W.nsIn K mainGlobals "is_told" = some (some (.ref f17))) (l17 : K.lookup f17 = some ⟨oc17, od17, .func (PySem.W.fnOf "is_told" "is_told" (defArgs s_is_told) (defBody s_is_told) (defScope s_is_told) .none kV17 dc17 pm17 an17 cd17 ct17), sl17⟩) (c17 : PySem.W.codeIn K cd17 "is_told" = true) (k17 : PySem.W.keepIn K (.ref f17) = true)
    {od18 an18 : Option Addr} {sl18 : Array (Option Value)} {oc18 kV18 dc18 pm18 cd18 ct18 : Value}
    (a18 : PySem.W.nsIn K mainGlobals "is_right" = some (some (.ref f18))) (l18 : K.lookup f18 = some ⟨oc18, od18, .func (PySem.W.fnOf "is_right" "is_right" (defArgs s_is_right) (defBody s_is_right) (defScope s_is_right) .none kV18 dc18 pm18 an18 cd18 ct18), sl18⟩) (c18 : PySem.W.codeIn K cd18 "is_right" = true) (k18 : PySem.W.keepIn K (.ref f18) = true)
    {od19 an19 : Option Addr} {sl19 : Array (Option Value)} {oc19 kV19 dc19 pm19 cd19 ct19 : Value}
    (a19 : PySem.W.nsIn K mainGlobals "_law_cell" = some (some (.ref f19))) (l19 : K.lookup f19 = some ⟨oc19, od19, .func (PySem.W.fnOf "_law_cell" "_law_cell" (defArgs s__law_cell) (defBody s__law_cell) (defScope s__law_cell) .none kV19 dc19 pm19 an19 cd19 ct19), sl19⟩) (c19 : PySem.W.codeIn K cd19 "_law_cell" = true) (k19 : PySem.W.keepIn K (.ref f19) = true)
    {od20 an20 : Option Addr} {sl20 : Array (Option Value)} {oc20 kV20 dc20 pm20 cd20 ct20 : Value}
    (a20 : PySem.W.nsIn K mainGlobals "_law_digits" = some (some (.ref f20))) (l20 : K.lookup f20 = some ⟨oc20, od20, .func (PySem.W.fnOf "_law_digits" "_law_digits" (defArgs s__law_digits) (defBody s__law_digits) (defScope s__law_digits) .none kV20 dc20 pm20 an20 cd20 ct20), sl20⟩) (c20 : PySem.W.codeIn K cd20 "_law_digits" = true) (k20 : PySem.W.keepIn K (.ref f20) = true)
    {od21 an21 : Option Addr} {sl21 : Array (Option Value)} {oc21 kV21 dc21 pm21 cd21 ct21 : Value}
    (a21 : PySem.W.nsIn K mainGlobals "_law_many" = some (some (.ref f21))) (l21 : K.lookup f21 = some ⟨oc21, od21, .func (PySem.W.fnOf "_law_many" "_law_many" (defArgs s__law_many) (defBody s__law_many) (defScope s__law_many) .none kV21 dc21 pm21 an21 cd21 ct21), sl21⟩) (c21 : PySem.W.codeIn K cd21 "_law_many" = true) (k21 : PySem.W.keepIn K (.ref f21) = true)
    {od22 an22 : Option Addr} {sl22 : Array (Option Value)} {oc22 kV22 dc22 pm22 cd22 ct22 : Value}
    (a22 : PySem.W.nsIn K mainGlobals "_law_run" = some (some (.ref f22))) (l22 : K.lookup f22 = some ⟨oc22, od22, .func (PySem.W.fnOf "_law_run" "_law_run" (defArgs s__law_run) (defBody s__law_run) (defScope s__law_run) .none kV22 dc22 pm22 an22 cd22 ct22), sl22⟩) (c22 : PySem.W.codeIn K cd22 "_law_run" = true) (k22 : PySem.W.keepIn K (.ref f22) = true)
    {od23 an23 : Option Addr} {sl23 : Array (Option Value)} {oc23 kV23 dc23 pm23 cd23 ct23 : Value}
    (a23 : PySem.W.nsIn K mainGlobals "_law_changed" = some (some (.ref f23))) (l23 : K.lookup f23 = some ⟨oc23, od23, .func (PySem.W.fnOf "_law_changed" "_law_changed" (defArgs s__law_changed) (defBody s__law_changed) (defScope s__law_changed) .none kV23 dc23 pm23 an23 cd23 ct23), sl23⟩) (c23 : PySem.W.codeIn K cd23 "_law_changed" = true) (k23 : PySem.W.keepIn K (.ref f23) = true)
    {od24 an24 : Option Addr} {sl24 : Array (Option Value)} {oc24 kV24 dc24 pm24 cd24 ct24 : Value}
    (a24 : PySem.W.nsIn K mainGlobals "_law_side" = some (some (.ref f24))) (l24 : K.lookup f24 = some ⟨oc24, od24, .func (PySem.W.fnOf "_law_side" "_law_side" (defArgs s__law_side) (defBody s__law_side) (defScope s__law_side) .none kV24 dc24 pm24 an24 cd24 ct24), sl24⟩) (c24 : PySem.W.codeIn K cd24 "_law_side" = true) (k24 : PySem.W.keepIn K (.ref f24) = true)
    {od25 an25 : Option Addr} {sl25 : Array (Option Value)} {oc25 kV25 dc25 pm25 cd25 ct25 : Value}
    (a25 : PySem.W.nsIn K mainGlobals "law" = some (some (.ref f25))) (l25 : K.lookup f25 = some ⟨oc25, od25, .func (PySem.W.fnOf "law" "law" (defArgs s_law) (defBody s_law) (defScope s_law) .none kV25 dc25 pm25 an25 cd25 ct25), sl25⟩) (c25 : PySem.W.codeIn K cd25 "law" = true) (k25 : PySem.W.keepIn K (.ref f25) = true)
    (z0 : PySem.W.nsIn K mainGlobals "all" = some none)
    (z1 : PySem.W.nsIn K mainGlobals "any" = some none)
    (z2 : PySem.W.nsIn K mainGlobals "bool" = some none)
    (z3 : PySem.W.nsIn K mainGlobals "int" = some none)
    (z4 : PySem.W.nsIn K mainGlobals "isinstance" = some none)
    (z5 : PySem.W.nsIn K mainGlobals "len" = some none)
    (z6 : PySem.W.nsIn K mainGlobals "list" = some none)
    (z7 : PySem.W.nsIn K mainGlobals "max" = some none)
    (z8 : PySem.W.nsIn K mainGlobals "min" = some none)
    (z9 : PySem.W.nsIn K mainGlobals "range" = some none)
    (z10 : PySem.W.nsIn K mainGlobals "set" = some none)
    (z11 : PySem.W.nsIn K mainGlobals "sorted" = some none)
    (z12 : PySem.W.nsIn K mainGlobals "str" = some none)
    (z13 : PySem.W.nsIn K mainGlobals "tuple" = some none)
    (w0 : PySem.W.nsIn K mainGlobals "combinations" = some (some (.type "itertools.combinations")))
    (tell : ∀ (ns : List Int) (TP0 : Addr), ns.length ≤ 63 → ∃ h', (fn_law TP0) [.d (.list (ns.map .int))] [.tab TP0 (qlam "ascending")] = some (.d (.bool true), h'))
    : LamX.LawAtS l w K CX0 8 63 "script" mg fa h := by
  have e := hfa.symm.trans (PySem.W.mg_of X G a25)
  cases e
  have F0 := fun_mk (st := s_covers) l0 c0 k0
  have b0 := F0.binds (ps := ["clock", "machine", "number"]) fun _ _ _ _ _ _ us hl => match us, hl with | [_, _, _], _ => rfl
  have F1 := fun_mk (st := s_each_once) l1 c1 k1
  have b1 := F1.binds (ps := ["words"]) fun _ _ _ _ _ _ us hl => match us, hl with | [_], _ => rfl
  have F2 := fun_mk (st := s_make_record) l2 c2 k2
  have b2 := F2.binds (ps := ["machine", "number", "clock", "loads", "stores"]) fun _ _ _ _ _ _ us hl => match us, hl with | [_, _, _, _, _], _ => rfl
  have F3 := fun_mk (st := s_is_same) l3 c3 k3
  have b3 := F3.binds (ps := ["one", "other"]) fun _ _ _ _ _ _ us hl => match us, hl with | [_, _], _ => rfl
  have F4 := fun_mk (st := s_is_covered) l4 c4 k4
  have b4 := F4.binds (ps := ["record", "clock"]) fun _ _ _ _ _ _ us hl => match us, hl with | [_, _], _ => rfl
  have F5 := fun_mk (st := s_is_before) l5 c5 k5
  have b5 := F5.binds (ps := ["one", "other"]) fun _ _ _ _ _ _ us hl => match us, hl with | [_, _], _ => rfl
  have F6 := fun_mk (st := s_are_unordered) l6 c6 k6
  have b6 := F6.binds (ps := ["one", "other"]) fun _ _ _ _ _ _ us hl => match us, hl with | [_, _], _ => rfl
  have F7 := fun_mk (st := s_ascending) l7 c7 k7
  have b7 := F7.binds (ps := ["records"]) fun _ _ _ _ _ _ us hl => match us, hl with | [_], _ => rfl
  have F8 := fun_mk (st := s_is_whole) l8 c8 k8
  have b8 := F8.binds (ps := ["value"]) fun _ _ _ _ _ _ us hl => match us, hl with | [_], _ => rfl
  have F9 := fun_mk (st := s_kind_of) l9 c9 k9
  have b9 := F9.binds (ps := ["record", "word"]) fun _ _ _ _ _ _ us hl => match us, hl with | [_, _], _ => rfl
  have F10 := fun_mk (st := s_sides_of) l10 c10 k10
  have b10 := F10.binds (ps := ["records"]) fun _ _ _ _ _ _ us hl => match us, hl with | [_], _ => rfl
  have F11 := fun_mk (st := s_do_race) l11 c11 k11
  have b11 := F11.binds (ps := ["one", "other"]) fun _ _ _ _ _ _ us hl => match us, hl with | [_, _], _ => rfl
  have F12 := fun_mk (st := s_papers_of) l12 c12 k12
  have b12 := F12.binds (ps := ["word", "sides"]) fun _ _ _ _ _ _ us hl => match us, hl with | [_, _], _ => rfl
  have F13 := fun_mk (st := s_report) l13 c13 k13
  have b13 := F13.binds (ps := ["records"]) fun _ _ _ _ _ _ us hl => match us, hl with | [_], _ => rfl
  have F14 := fun_mk (st := s_is_clock) l14 c14 k14
  have b14 := F14.binds (ps := ["value"]) fun _ _ _ _ _ _ us hl => match us, hl with | [_], _ => rfl
  have F15 := fun_mk (st := s_is_side) l15 c15 k15
  have b15 := F15.binds (ps := ["value"]) fun _ _ _ _ _ _ us hl => match us, hl with | [_], _ => rfl
  have F16 := fun_mk (st := s_is_paper) l16 c16 k16
  have b16 := F16.binds (ps := ["value"]) fun _ _ _ _ _ _ us hl => match us, hl with | [_], _ => rfl
  have F17 := fun_mk (st := s_is_told) l17 c17 k17
  have b17 := F17.binds (ps := ["side", "word", "records"]) fun _ _ _ _ _ _ us hl => match us, hl with | [_, _, _], _ => rfl
  have F18 := fun_mk (st := s_is_right) l18 c18 k18
  have b18 := F18.binds (ps := ["paper", "records"]) fun _ _ _ _ _ _ us hl => match us, hl with | [_, _], _ => rfl
  have F19 := fun_mk (st := s__law_cell) l19 c19 k19
  have b19 := F19.binds (ps := ["script", "k"]) fun _ _ _ _ _ _ us hl => match us, hl with | [_, _], _ => rfl
  have F20 := fun_mk (st := s__law_digits) l20 c20 k20
  have b20 := F20.binds (ps := ["cell", "bases"]) fun _ _ _ _ _ _ us hl => match us, hl with | [_, _], _ => rfl
  have F21 := fun_mk (st := s__law_many) l21 c21 k21
  have b21 := F21.binds (ps := ["script", "few", "many"]) fun _ _ _ _ _ _ us hl => match us, hl with | [_, _, _], _ => rfl
  have F22 := fun_mk (st := s__law_run) l22 c22 k22
  have b22 := F22.binds (ps := ["cells", "machines"]) fun _ _ _ _ _ _ us hl => match us, hl with | [_, _], _ => rfl
  have F23 := fun_mk (st := s__law_changed) l23 c23 k23
  have b23 := F23.binds (ps := ["paper", "cell"]) fun _ _ _ _ _ _ us hl => match us, hl with | [_, _], _ => rfl
  have F24 := fun_mk (st := s__law_side) l24 c24 k24
  have b24 := F24.binds (ps := ["record", "word"]) fun _ _ _ _ _ _ us hl => match us, hl with | [_, _], _ => rfl
  have F25 := fun_mk (st := s_law) l25 c25 k25
  have b25 := F25.binds (ps := ["script"]) fun _ _ _ _ _ _ us hl => match us, hl with | [_], _ => rfl
  let Z : Fx K mg := ⟨f0, _, F0, b0, PySem.W.mg_of X G a0,
    f1, _, F1, b1, PySem.W.mg_of X G a1,
    f2, _, F2, b2, PySem.W.mg_of X G a2,
    f3, _, F3, b3, PySem.W.mg_of X G a3,
    f4, _, F4, b4, PySem.W.mg_of X G a4,
    f5, _, F5, b5, PySem.W.mg_of X G a5,
    f6, _, F6, b6, PySem.W.mg_of X G a6,
    f7, _, F7, b7, PySem.W.mg_of X G a7,
    f8, _, F8, b8, PySem.W.mg_of X G a8,
    f9, _, F9, b9, PySem.W.mg_of X G a9,
    f10, _, F10, b10, PySem.W.mg_of X G a10,
    f11, _, F11, b11, PySem.W.mg_of X G a11,
    f12, _, F12, b12, PySem.W.mg_of X G a12,
    f13, _, F13, b13, PySem.W.mg_of X G a13,
    f14, _, F14, b14, PySem.W.mg_of X G a14,
    f15, _, F15, b15, PySem.W.mg_of X G a15,
    f16, _, F16, b16, PySem.W.mg_of X G a16,
    f17, _, F17, b17, PySem.W.mg_of X G a17,
    f18, _, F18, b18, PySem.W.mg_of X G a18,
    f19, _, F19, b19, PySem.W.mg_of X G a19,
    f20, _, F20, b20, PySem.W.mg_of X G a20,
    f21, _, F21, b21, PySem.W.mg_of X G a21,
    f22, _, F22, b22, PySem.W.mg_of X G a22,
    f23, _, F23, b23, PySem.W.mg_of X G a23,
    f24, _, F24, b24, PySem.W.mg_of X G a24,
    fa, _, F25, b25, PySem.W.mg_of X G a25,
    PySem.W.mg_none_of X G z0,
    PySem.W.mg_none_of X G z1,
    PySem.W.mg_none_of X G z2,
    PySem.W.mg_none_of X G z3,
    PySem.W.mg_none_of X G z4,
    PySem.W.mg_none_of X G z5,
    PySem.W.mg_none_of X G z6,
    PySem.W.mg_none_of X G z7,
    PySem.W.mg_none_of X G z8,
    PySem.W.mg_none_of X G z9,
    PySem.W.mg_none_of X G z10,
    PySem.W.mg_none_of X G z11,
    PySem.W.mg_none_of X G z12,
    PySem.W.mg_none_of X G z13,
    PySem.W.mg_of X G w0,
    tc0, tp0, rfl⟩
  refine ⟨PySem.W.fnOf "law" "law" (defArgs s_law) (defBody s_law) (defScope s_law) .none kV25 dc25 pm25 an25 cd25 ct25, [(tc0, tp0)], spH K (fn_law tp0), ?_, ?_, ?_, fun s v => .of_eq rfl, fun H a ns hl _ hH hS => ?_, fun base _ _ hTB => ?_⟩
  · exact (List.forall_mem_cons.mpr ⟨own "ascending" rq0 f7 (PySem.W.mg_of X G a7) tc0 tp0 _ _ _ _ _ _ l7 rfl rfl tl0 tw0, List.forall_mem_nil _⟩)
  · exact (List.forall_mem_cons.mpr ⟨tn0, List.forall_mem_nil _⟩)
  · exact (List.forall_mem_cons.mpr ⟨PySem.W.codeHd_of_K X th0, List.forall_mem_nil _⟩)
  · exact sp_start (cs := [(tp0, qlam "ascending")]) (List.forall_mem_cons.mpr ⟨hH (tc0, tp0) (by simp), List.forall_mem_nil _⟩) (by simp) hS (tell ns tp0 hl) fun _ => rfl
  · exact ok_law Z (hTB (tc0, tp0) (by simp))
end M
open PySem PySem.W PyProof.Rows
theorem PySem.Challenge.cw_commonage_k11_papers_that_are_right_holds : PySem.Challenge.rw_commonage_k11_papers_that_are_right.Holds := by
  w_on; o_law; k_head; (case hw => w_witness2)
  k_fill
  refine M.walk_ofL (l := PySem.Challenge.rw_commonage_k11_papers_that_are_right) (n := 63) (k := 8) (x := "script") (CX := fun _ => L2.CX0) rfl (by decide) rfl ⟨rfl, by decide, by decide⟩ (fun w h Y => by first | exact PySem.W.kIn_of Y | exact PySem.W.km_in_of Y) ?F (fun _ _ _ _ _ h => h)
  case F =>
    intro w mg fa h Y KX hG0 hmg own
    refine' _root_.M.all_mk KX hG0 hmg own (by decide +kernel) ?a0 ?l0 ?c0 ?k0 ?a1 ?l1 ?c1 ?k1 ?a2 ?l2 ?c2 ?k2 ?a3 ?l3 ?c3 ?k3 ?a4 ?l4 ?c4 ?k4 ?a5 ?l5 ?c5 ?k5 ?a6 ?l6 ?c6 ?k6 ?a7 ?l7 ?c7 ?k7 ?tl0 ?tw0 ?tn0 ?th0 ?a8 ?l8 ?c8 ?k8 ?a9 ?l9 ?c9 ?k9 ?a10 ?l10 ?c10 ?k10 ?a11 ?l11 ?c11 ?k11 ?a12 ?l12 ?c12 ?k12 ?a13 ?l13 ?c13 ?k13 ?a14 ?l14 ?c14 ?k14 ?a15 ?l15 ?c15 ?k15 ?a16 ?l16 ?c16 ?k16 ?a17 ?l17 ?c17 ?k17 ?a18 ?l18 ?c18 ?k18 ?a19 ?l19 ?c19 ?k19 ?a20 ?l20 ?c20 ?k20 ?a21 ?l21 ?c21 ?k21 ?a22 ?l22 ?c22 ?k22 ?a23 ?l23 ?c23 ?k23 ?a24 ?l24 ?c24 ?k24 ?a25 ?l25 ?c25 ?k25 ?z0 ?z1 ?z2 ?z3 ?z4 ?z5 ?z6 ?z7 ?z8 ?z9 ?z10 ?z11 ?z12 ?z13 ?w0 M.tell
    (case a0 => k_is); (case l0 => k_is); (case c0 => k_is); (case k0 => k_is); (case a1 => k_is); (case l1 => k_is); (case c1 => k_is); (case k1 => k_is); (case a2 => k_is); (case l2 => k_is); (case c2 => k_is); (case k2 => k_is); (case a3 => k_is); (case l3 => k_is); (case c3 => k_is); (case k3 => k_is); (case a4 => k_is); (case l4 => k_is); (case c4 => k_is); (case k4 => k_is); (case a5 => k_is); (case l5 => k_is); (case c5 => k_is); (case k5 => k_is); (case a6 => k_is); (case l6 => k_is); (case c6 => k_is); (case k6 => k_is); (case a7 => k_is); (case l7 => k_is); (case c7 => k_is); (case k7 => k_is); (case tl0 => first | k_is | rfl | decide +kernel); (case tw0 => first | k_is | rfl | decide +kernel); (case tn0 => first | k_is | rfl | decide +kernel); (case th0 => first | k_is | rfl | decide +kernel); (case a8 => k_is); (case l8 => k_is); (case c8 => k_is); (case k8 => k_is); (case a9 => k_is); (case l9 => k_is); (case c9 => k_is); (case k9 => k_is); (case a10 => k_is); (case l10 => k_is); (case c10 => k_is); (case k10 => k_is); (case a11 => k_is); (case l11 => k_is); (case c11 => k_is); (case k11 => k_is); (case a12 => k_is); (case l12 => k_is); (case c12 => k_is); (case k12 => k_is); (case a13 => k_is); (case l13 => k_is); (case c13 => k_is); (case k13 => k_is); (case a14 => k_is); (case l14 => k_is); (case c14 => k_is); (case k14 => k_is); (case a15 => k_is); (case l15 => k_is); (case c15 => k_is); (case k15 => k_is); (case a16 => k_is); (case l16 => k_is); (case c16 => k_is); (case k16 => k_is); (case a17 => k_is); (case l17 => k_is); (case c17 => k_is); (case k17 => k_is); (case a18 => k_is); (case l18 => k_is); (case c18 => k_is); (case k18 => k_is); (case a19 => k_is); (case l19 => k_is); (case c19 => k_is); (case k19 => k_is); (case a20 => k_is); (case l20 => k_is); (case c20 => k_is); (case k20 => k_is); (case a21 => k_is); (case l21 => k_is); (case c21 => k_is); (case k21 => k_is); (case a22 => k_is); (case l22 => k_is); (case c22 => k_is); (case k22 => k_is); (case a23 => k_is); (case l23 => k_is); (case c23 => k_is); (case k23 => k_is); (case a24 => k_is); (case l24 => k_is); (case c24 => k_is); (case k24 => k_is); (case a25 => k_is); (case l25 => k_is); (case c25 => k_is); (case k25 => k_is); (case z0 => k_is); (case z1 => k_is); (case z2 => k_is); (case z3 => k_is); (case z4 => k_is); (case z5 => k_is); (case z6 => k_is); (case z7 => k_is); (case z8 => k_is); (case z9 => k_is); (case z10 => k_is); (case z11 => k_is); (case z12 => k_is); (case z13 => k_is); (case w0 => k_is)
